package group

import (
	"slices"

	"drover/api"
)

// beyond is more than any pick.
const beyond = 1 << 63

// Choose is the buckets that a packet goes through.
func Choose(g api.Group, live []bool, pick int) []api.Bucket {
	switch g.Kind {
	case api.All, api.Indirect:
		return copies(g.Buckets)
	case api.Failover:
		return copies(first(alive(g.Buckets, live)))
	case api.Select:
		return copies(picked(weighty(alive(g.Buckets, live)), pick))
	}
	return nil
}

// alive is those of the buckets that are, in a list of its own.
func alive(l []api.Bucket, live []bool) []api.Bucket {
	var kept []api.Bucket
	for _, b := range l {
		if b.Watch == 0 || within(b.Watch, 1, len(live)-1) && live[b.Watch] {
			kept = append(kept, b)
		}
	}
	return kept
}

// weighty is those of the buckets that may be picked, in a list of its own.
func weighty(l []api.Bucket) []api.Bucket {
	var kept []api.Bucket
	for _, b := range l {
		if b.Weight > 0 {
			kept = append(kept, b)
		}
	}
	return kept
}

func first(l []api.Bucket) []api.Bucket { return l[:min(1, len(l))] }

// picked turns the list round where pick is below 0: -1 is the last place, which is place 0 from the end.
func picked(l []api.Bucket, pick int) []api.Bucket {
	if pick < 0 {
		slices.Reverse(l)
		return at(l, uint64(-(pick + 1)))
	}
	return at(l, uint64(pick))
}

// at is the bucket at a place, counted by Weights; behind the last one the first one comes again.
func at(l []api.Bucket, place uint64) []api.Bucket {
	if len(l) == 0 {
		return nil
	}
	rest := place % sum(l)
	i := 0
	for rest >= uint64(l[i].Weight) {
		rest -= uint64(l[i].Weight)
		i++
	}
	return l[i : i+1]
}

// sum is all Weights together, or beyond: then no place comes again, and how much more they are does not matter.
func sum(l []api.Bucket) uint64 {
	n := uint64(0)
	for _, b := range l {
		n = min(n+uint64(b.Weight), beyond)
	}
	return n
}
