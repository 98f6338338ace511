package group

import (
	"drover/act"
	"drover/api"
)

const (
	maxID      = 65535
	maxBuckets = 16
	maxActions = 8 // of a bucket
	maxWeight  = 65535
)

// right tells whether a group may be. What is wrong with a late bucket is told ahead of what is wrong with an early action.
func right(g api.Group) api.Errno {
	switch {
	case !rightForm(g):
		return api.ErrGroup
	case !rightActions(g):
		return api.ErrAct
	}
	return api.OK
}

// rightForm looks at all but what the actions are.
func rightForm(g api.Group) bool {
	if !within(g.ID, 1, maxID) || !isKind(g.Kind) || !within(len(g.Buckets), fewest(g.Kind), most(g.Kind)) {
		return false
	}
	for _, b := range g.Buckets {
		if !rightBucket(g.Kind, b) {
			return false
		}
	}
	return true
}

func rightBucket(kind int, b api.Bucket) bool {
	return len(b.Actions) <= maxActions && within(b.Watch, leastWatch(kind), api.MaxPorts) && within(b.Weight, 0, maxWeight)
}

func rightActions(g api.Group) bool {
	for _, b := range g.Buckets {
		for _, a := range b.Actions {
			if !act.Right(a) {
				return false
			}
		}
	}
	return true
}

func isKind(kind int) bool {
	switch kind {
	case api.All, api.Select, api.Indirect, api.Failover:
		return true
	}
	return false
}

// fewest is how many buckets a group of the kind has at least.
func fewest(kind int) int {
	if kind == api.Indirect {
		return 1
	}
	return 0
}

// most is how many buckets a group of the kind has at most.
func most(kind int) int {
	if kind == api.Indirect {
		return 1
	}
	return maxBuckets
}

// leastWatch is the least Watch of a group of the kind: to fail over, there must be a port that fails.
func leastWatch(kind int) int {
	if kind == api.Failover {
		return 1
	}
	return 0
}

func within(n, least, most int) bool { return n >= least && n <= most }
