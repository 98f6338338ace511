package group

import (
	"math"
	"math/rand"
	"slices"
	"testing"

	"drover/api"
)

// marked is a bucket that is told from others by its action.
func marked(mark, watch, weight int) api.Bucket {
	return api.Bucket{Watch: watch, Weight: weight, Actions: []api.Action{output(uint64(mark))}}
}

// weights are buckets of such Weights that are always alive, with the marks 1, 2 ..
func weights(l ...int) []api.Bucket {
	var all []api.Bucket
	for i, weight := range l {
		all = append(all, marked(i+1, 0, weight))
	}
	return all
}

// watches are buckets of such Watches, of Weight 1, with the marks 1, 2 ..
func watches(l ...int) []api.Bucket {
	var all []api.Bucket
	for i, watch := range l {
		all = append(all, marked(i+1, watch, 1))
	}
	return all
}

// ports are those that are alive, in a list of so many.
func ports(size int, l ...int) []bool {
	live := make([]bool, size)
	for _, p := range l {
		live[p] = true
	}
	return live
}

// marks are which buckets were chosen.
func marks(l []api.Bucket) []int {
	var all []int
	for _, b := range l {
		all = append(all, int(b.Actions[0].Value))
	}
	return all
}

func checkChoose(t *testing.T, kind int, l []api.Bucket, live []bool, pick int, want ...int) {
	t.Helper()
	got := Choose(api.Group{Kind: kind, Buckets: l}, live, pick)
	if !slices.Equal(marks(got), want) {
		t.Errorf("Kind %d, %+v, live %v, pick %d: %v, not %v", kind, l, live, pick, marks(got), want)
	}
	for _, b := range got {
		if mark := int(b.Actions[0].Value); text(b) != text(l[mark-1]) {
			t.Errorf("bucket %d is %+v, not %+v", mark, b, l[mark-1])
		}
	}
}

// picks are at the edges of what an int holds, and about 0.
var picks = []int{math.MinInt, math.MinInt + 1, math.MinInt32, -5, -2, -1, 0, 1, 2, 5, math.MaxInt32, math.MaxInt - 1, math.MaxInt}

func TestChooseExample(t *testing.T) { // Examples
	checkChoose(t, api.Failover, watches(1, 2), ports(3, 2), 0, 2)
}

func TestChooseOfAllAndIndirect(t *testing.T) { // P10.4: whatever is alive, weighs or is picked
	l := []api.Bucket{marked(1, 1, 0), marked(2, 2, 1), marked(3, 0, -1), marked(4, -1, 5), marked(5, 99, 65535)}
	for _, kind := range []int{api.All, api.Indirect} {
		for _, pick := range picks {
			for _, live := range [][]bool{nil, {}, ports(3), ports(3, 1, 2), ports(100, 2)} {
				checkChoose(t, kind, l, live, pick, 1, 2, 3, 4, 5)
				checkChoose(t, kind, l[:1], live, pick, 1)
				checkChoose(t, kind, nil, live, pick)
			}
		}
	}
}

func TestChooseOfFailover(t *testing.T) { // P10.4
	for _, pick := range picks {
		l := watches(3, 1, 2)
		checkChoose(t, api.Failover, l, ports(4, 1, 2, 3), pick, 1)
		checkChoose(t, api.Failover, l, ports(4, 1, 2), pick, 2)
		checkChoose(t, api.Failover, l, ports(4, 2), pick, 3)
		checkChoose(t, api.Failover, l, ports(4, 2, 3), pick, 1)
		checkChoose(t, api.Failover, l, ports(4), pick)
		checkChoose(t, api.Failover, l, ports(4, 0), pick)
		checkChoose(t, api.Failover, l, nil, pick)
		checkChoose(t, api.Failover, nil, ports(4, 1, 2, 3), pick)
	}
}

func TestFailoverDoesNotWeigh(t *testing.T) { // P10.4
	for _, weight := range []int{math.MinInt, -1, 0, 1, 65535, math.MaxInt} {
		l := []api.Bucket{marked(1, 1, weight), marked(2, 2, weight), marked(3, 0, weight)}
		checkChoose(t, api.Failover, l, ports(3, 1, 2), 1, 1)
		checkChoose(t, api.Failover, l, ports(3, 2), 1, 2)
		checkChoose(t, api.Failover, l, nil, 1, 3)
	}
}

// P10.4: when a bucket is alive, shown by Failover and by Select.
func TestAlive(t *testing.T) {
	check := func(watch int, live []bool, want bool) {
		t.Helper()
		marks := []int{1}
		if !want {
			marks = nil
		}
		checkChoose(t, api.Failover, watches(watch), live, 0, marks...)
		checkChoose(t, api.Select, watches(watch), live, 0, marks...)
	}
	all := func(size int) []bool { return slices.Repeat([]bool{true}, size) }
	for _, live := range [][]bool{nil, {}, {false}, {true}, ports(17), all(17)} {
		check(0, live, true) // also where live says that there is no port 0 that is alive
	}
	for size := range 20 {
		for watch := 1; watch < 22; watch++ {
			check(watch, all(size), watch < size) // size is how many there are with port 0, which is none
			check(watch, ports(size), false)
			if watch < size {
				check(watch, ports(size, watch), true)
				others := all(size)
				others[watch] = false
				check(watch, others, false)
			}
		}
	}
	for _, watch := range []int{-1, -2, -17, math.MinInt32, math.MinInt, 17, 18, 256, 1 << 32, 1<<32 + 1, math.MaxInt - 1, math.MaxInt} {
		for _, live := range [][]bool{nil, {}, {true}, all(2), all(17)} {
			check(watch, live, false)
		}
	}
	check(200, ports(300, 200), true) // beyond MaxPorts, as nobody asks that the group be right
}

func TestSelectAtTheEdges(t *testing.T) { // P10.4: counted by Weights, in order
	l := weights(1, 2, 3)
	for pick, want := range []int{1, 2, 2, 3, 3, 3} {
		for _, round := range []int{0, 1, 2, 1000, -1, -2, -1000} {
			checkChoose(t, api.Select, l, nil, pick+6*round, want)
		}
	}
	l = weights(65535, 65535)
	for pick, want := range map[int]int{0: 1, 1: 1, 65534: 1, 65535: 2, 65536: 2, 131069: 2, 131070: 1, 131071: 1, 196604: 1, 196605: 2,
		-1: 2, -65535: 2, -65536: 1, -131070: 1, -131071: 2} {
		checkChoose(t, api.Select, l, nil, pick, want)
	}
	for _, pick := range picks {
		checkChoose(t, api.Select, weights(1), nil, pick, 1)
		checkChoose(t, api.Select, weights(65535), nil, pick, 1)
	}
}

func TestSelectAtGreatPicks(t *testing.T) { // P10.4: 2^63 is 2 modulo 3, and 3 modulo 5
	l := weights(1, 1, 1)
	checkChoose(t, api.Select, l, nil, math.MaxInt, 2)
	checkChoose(t, api.Select, l, nil, math.MaxInt-1, 1)
	checkChoose(t, api.Select, l, nil, math.MinInt, 2)
	checkChoose(t, api.Select, l, nil, math.MinInt+1, 3)
	l = weights(1, 1, 1, 1, 1)
	checkChoose(t, api.Select, l, nil, math.MaxInt, 3)
	checkChoose(t, api.Select, l, nil, math.MinInt, 3)
	checkChoose(t, api.Select, l, nil, math.MinInt+1, 4)
}

func TestSelectLeavesOut(t *testing.T) { // P10.4: those that are not alive, and those without Weight
	for _, none := range []int{0, -1, -2, -65535, math.MinInt} {
		l := weights(none, 2, none, 1, none)
		for pick, want := range []int{2, 2, 4, 2, 2, 4} {
			checkChoose(t, api.Select, l, nil, pick, want)
			checkChoose(t, api.Select, l, nil, pick-6, want)
		}
		for _, pick := range picks {
			checkChoose(t, api.Select, weights(none, none), nil, pick)
		}
	}
	l := []api.Bucket{marked(1, 1, 2), marked(2, 2, 1), marked(3, 3, 0), marked(4, 0, 1)}
	for pick, want := range []int{1, 1, 2, 4} {
		checkChoose(t, api.Select, l, ports(4, 1, 2, 3), pick, want)
	}
	for pick, want := range []int{2, 4, 2, 4} {
		checkChoose(t, api.Select, l, ports(4, 2, 3), pick, want)
		checkChoose(t, api.Select, l, ports(3, 2), -4+pick, want)
	}
	for _, pick := range picks {
		checkChoose(t, api.Select, l, nil, pick, 4)
		checkChoose(t, api.Select, l[:3], ports(4, 3), pick)
		checkChoose(t, api.Select, l[:3], nil, pick)
		checkChoose(t, api.Select, nil, ports(4, 3), pick)
	}
}

// P10.4, R1: nobody asks that the Weights be right, so their sum may be more than an int holds, or than a uint64 does.
func TestSelectOfGreatWeights(t *testing.T) {
	const half = 1 << 62
	l := weights(half, half) // the sum is one more than an int holds
	for pick, want := range map[int]int{0: 1, half - 1: 1, half: 2, math.MaxInt: 2, -1: 2, -half: 2, -half - 1: 1, math.MinInt + 1: 1, math.MinInt: 1} {
		checkChoose(t, api.Select, l, nil, pick, want)
	}
	l = weights(half, half-1) // just as much as an int holds
	for pick, want := range map[int]int{0: 1, half - 1: 1, half: 2, math.MaxInt - 1: 2, math.MaxInt: 1, -1: 2, math.MinInt + 1: 1, math.MinInt: 2} {
		checkChoose(t, api.Select, l, nil, pick, want)
	}
	l = weights(math.MaxInt, math.MaxInt, math.MaxInt)
	for pick, want := range map[int]int{0: 1, math.MaxInt - 1: 1, math.MaxInt: 2, -1: 3, -math.MaxInt: 3, math.MinInt: 2} {
		checkChoose(t, api.Select, l, nil, pick, want)
	}
	l = weights(1, math.MaxInt, 1)
	for pick, want := range map[int]int{0: 1, 1: 2, math.MaxInt: 2, -1: 3, -2: 2, math.MinInt: 2} {
		checkChoose(t, api.Select, l, nil, pick, want)
	}
}

func TestChooseOfOtherKinds(t *testing.T) { // P10.4
	for _, kind := range []int{0, -1, -4, 5, 6, 256 + api.All, 1<<32 + api.Failover, math.MinInt, math.MaxInt} {
		for _, pick := range picks {
			checkChoose(t, kind, weights(1, 2), nil, pick)
			checkChoose(t, kind, watches(1, 2), ports(3, 1, 2), pick)
			checkChoose(t, kind, nil, nil, pick)
		}
	}
}

func TestChooseDoesNotAskForTheID(t *testing.T) { // P10.4
	for _, id := range []int{math.MinInt, -1, 0, 1, 65535, 65536, math.MaxInt} {
		l := Choose(api.Group{ID: id, Kind: api.Select, Buckets: weights(1, 1)}, nil, 1)
		if !slices.Equal(marks(l), []int{2}) {
			t.Errorf("ID %d: %+v", id, l)
		}
	}
}

func anyChoice(r *rand.Rand) (api.Group, []bool, int) {
	g := api.Group{Kind: 1 + r.Intn(4)}
	if r.Intn(3) > 0 {
		g.Kind = api.Select
	}
	for i := range r.Intn(7) {
		weight := []int{r.Intn(4) - 1, r.Intn(10), r.Intn(65536), r.Int() >> r.Intn(63), math.MaxInt - r.Intn(2)}[r.Intn(5)]
		watch := []int{0, r.Intn(20) - 2, 1 + r.Intn(4)}[r.Intn(3)]
		g.Buckets = append(g.Buckets, marked(i+1, watch, weight))
	}
	live := make([]bool, r.Intn(20))
	for i := range live {
		live[i] = r.Intn(3) > 0
	}
	pick := []int{r.Intn(20) - 10, int(r.Uint64()), r.Int() >> r.Intn(63), picks[r.Intn(len(picks))]}[r.Intn(4)]
	if n := len(g.Buckets); n > 0 && r.Intn(3) == 0 {
		pick = g.Buckets[r.Intn(n)].Weight + g.Buckets[r.Intn(n)].Weight + r.Intn(3) - 1
	}
	return g, live, pick
}

func TestChooseIsAsTheWordsSay(t *testing.T) { // P10.4
	r := rand.New(rand.NewSource(10))
	for range 60000 {
		g, live, pick := anyChoice(r)
		if got, want := Choose(g, live, pick), slowChoose(g, live, pick); text(got) != text(want) {
			t.Fatalf("%+v, live %v, pick %d: %+v, not %+v", g, live, pick, got, want)
		}
	}
}

// P10.4: over as many picks as the Weights are together, each bucket comes as often as it weighs.
func TestSelectIsFair(t *testing.T) {
	l := []api.Bucket{marked(1, 1, 7), marked(2, 2, 100), marked(3, 0, 13), marked(4, 3, 1)}
	for _, from := range []int{-500, -114, -1, 0, 3, 1000000} {
		counts := map[int]int{}
		for pick := range 114 {
			counts[marks(Choose(api.Group{Kind: api.Select, Buckets: l}, ports(4, 2, 3), from+pick))[0]]++
		}
		if counts[1] != 0 || counts[2] != 100 || counts[3] != 13 || counts[4] != 1 {
			t.Errorf("from %d: %v", from, counts)
		}
	}
}

func TestChooseWritesIntoNothing(t *testing.T) { // R2: nor behind the lengths
	for _, kind := range append([]int{0, 5}, kinds...) {
		for _, pick := range []int{-7, -3, -2, -1, 0, 1, 2, 3, 7} {
			whole := []api.Bucket{marked(1, 1, 1), marked(2, 2, 2), marked(3, 0, 3), marked(4, 3, 4), marked(5, 0, 5)}
			for i := range whole {
				whole[i].Actions = append(whole[i].Actions, output(8), output(9))[:2]
			}
			live := []bool{true, false, true, true, true, false}
			behind := text(whole) + text(whole[0].Actions[:3]) + text(live)
			g := api.Group{ID: 1, Kind: kind, Buckets: whole[:4]}
			l := Choose(g, live[:3], pick)
			for i := range l {
				l[i].Watch, l[i].Weight = 77, 78
				l[i].Actions[0], l[i].Actions[1] = output(79), output(80)
				l[i].Actions = append(l[i].Actions, output(81))
			}
			_ = append(l, marked(82, 83, 84))
			if now := text(whole) + text(whole[0].Actions[:3]) + text(live); now != behind {
				t.Errorf("Kind %d, pick %d: %s, not %s", kind, pick, now, behind)
			}
		}
	}
}

func TestChosenBucketsShareNothing(t *testing.T) { // R2: also where the ones that were handed in do
	one := []api.Action{output(1), output(2)}
	g := api.Group{Kind: api.All, Buckets: []api.Bucket{{Actions: one}, {Actions: one}, {Actions: one[:1]}}}
	l := Choose(g, nil, 0)
	l[0].Actions[0] = output(9)
	l[2].Actions = append(l[2].Actions, output(10))
	if l[1].Actions[0] != output(1) || l[1].Actions[1] != output(2) || one[0] != output(1) || one[1] != output(2) {
		t.Errorf("%+v, of %+v", l, one)
	}
	again := Choose(g, nil, 0)
	if again[0].Actions[0] != output(1) {
		t.Errorf("%+v", again)
	}
}
