package group

import (
	"math"
	"slices"
	"testing"

	"drover/api"
)

// kinds are all of them.
var kinds = []int{api.All, api.Select, api.Indirect, api.Failover}

func output(v uint64) api.Action { return api.Action{Kind: api.Output, Value: v} }

func toGroup(v int) api.Action { return api.Action{Kind: api.ToGroup, Value: uint64(v)} }

// group is right: it has one bucket that watches a port, as a group of each kind may.
func group(id, kind int) api.Group {
	return api.Group{ID: id, Kind: kind, Buckets: []api.Bucket{{Watch: 1, Weight: 1, Actions: []api.Action{output(7)}}}}
}

// with is a group of which one bucket is another.
func with(kind int, b api.Bucket) api.Group {
	return api.Group{ID: 5, Kind: kind, Buckets: []api.Bucket{b}}
}

// buckets are so many.
func buckets(kind, n int) api.Group {
	g := api.Group{ID: 5, Kind: kind}
	for i := range n {
		g.Buckets = append(g.Buckets, api.Bucket{Watch: 1 + i%16, Weight: i, Actions: []api.Action{output(uint64(i + 1))}})
	}
	return g
}

// actions are so many.
func actions(n int) []api.Action {
	var l []api.Action
	for i := range n {
		l = append(l, output(uint64(i+1)))
	}
	return l
}

func table(t *testing.T, room int, l ...api.Group) *Table {
	t.Helper()
	x, e := New(room)
	if x == nil || e != api.OK {
		t.Fatalf("New(%d): %v %d", room, x, int(e))
	}
	for _, g := range l {
		if e := x.Add(g); e != api.OK {
			t.Fatalf("Add of %+v: %d", g, int(e))
		}
	}
	return x
}

func checkList(t *testing.T, x *Table, want ...api.Group) {
	t.Helper()
	if l := x.List(); text(l) != text(want) {
		t.Errorf("List: %+v, not %+v", l, want)
	}
}

// checkRight has Add and Modify look at a group that leads to none.
func checkRight(t *testing.T, g api.Group, want api.Errno) {
	t.Helper()
	x := table(t, 2)
	if e := x.Add(g); e != want {
		t.Errorf("Add of %+v: %d, not %d", g, int(e), int(want))
	}
	if want == api.OK {
		checkList(t, x, g)
		y := table(t, 2, api.Group{ID: g.ID, Kind: api.All})
		if e := y.Modify(g); e != api.OK {
			t.Errorf("Modify of %+v: %d", g, int(e))
		}
		checkList(t, y, g)
		return
	}
	checkList(t, x)
	y := table(t, 2, api.Group{ID: 5, Kind: api.All})
	if e := y.Modify(g); e != want {
		t.Errorf("Modify of %+v: %d, not %d", g, int(e), int(want))
	}
	checkList(t, y, api.Group{ID: 5, Kind: api.All})
}

func TestRightID(t *testing.T) { // P10.2, Words
	for _, kind := range kinds {
		for _, id := range []int{1, 2, 255, 256, 32768, 65534, 65535} {
			checkRight(t, group(id, kind), api.OK)
		}
		for _, id := range []int{0, -1, -5, 65536, 65537, 65541, 1 << 32, 1<<32 + 5, math.MinInt, math.MaxInt} {
			checkRight(t, group(id, kind), api.ErrGroup)
		}
	}
}

func TestRightKind(t *testing.T) { // P10.2, Words
	for kind := 1; kind <= 4; kind++ {
		checkRight(t, group(5, kind), api.OK)
	}
	for _, kind := range []int{0, -1, -4, 5, 6, 255, 256 + api.All, 1<<32 + api.Select, math.MinInt, math.MaxInt} {
		checkRight(t, group(5, kind), api.ErrGroup)
		checkRight(t, api.Group{ID: 5, Kind: kind}, api.ErrGroup)
	}
}

func TestRightBuckets(t *testing.T) { // P10.2, Words: how many there may be
	for _, kind := range kinds {
		for _, n := range []int{0, 1, 2, 3, 8, 15, 16, 17, 18, 32, 100, 65536} {
			want := api.OK
			if n > 16 || kind == api.Indirect && n != 1 {
				want = api.ErrGroup
			}
			checkRight(t, buckets(kind, n), want)
		}
	}
}

func TestRightActionsOfABucket(t *testing.T) { // P10.2, Words: how many there may be
	for _, kind := range kinds {
		for _, n := range []int{0, 1, 7, 8, 9, 10, 16, 64, 65536} {
			want := api.OK
			if n > 8 {
				want = api.ErrGroup
			}
			checkRight(t, with(kind, api.Bucket{Watch: 2, Actions: actions(n)}), want)
		}
	}
	g := buckets(api.All, 16)
	for i := range g.Buckets {
		g.Buckets[i].Actions = actions(8)
	}
	checkRight(t, g, api.OK) // it is of a bucket, not of all of them
	g.Buckets[15].Actions = actions(9)
	checkRight(t, g, api.ErrGroup)
}

func TestRightWatch(t *testing.T) { // P10.2, Words
	for _, kind := range kinds {
		for watch := 1; watch <= 16; watch++ {
			checkRight(t, with(kind, api.Bucket{Watch: watch}), api.OK)
		}
		zero := api.OK
		if kind == api.Failover {
			zero = api.ErrGroup
		}
		checkRight(t, with(kind, api.Bucket{}), zero)
		for _, watch := range []int{-1, -2, -16, 17, 18, 256 + 1, 1<<32 + 1, math.MinInt, math.MaxInt} {
			checkRight(t, with(kind, api.Bucket{Watch: watch}), api.ErrGroup)
		}
	}
}

func TestRightWeight(t *testing.T) { // P10.2, Words
	for _, kind := range kinds {
		for _, weight := range []int{0, 1, 2, 255, 32768, 65534, 65535} {
			checkRight(t, with(kind, api.Bucket{Watch: 1, Weight: weight}), api.OK)
		}
		for _, weight := range []int{-1, -2, -65535, 65536, 65537, 1 << 32, math.MinInt, math.MaxInt} {
			checkRight(t, with(kind, api.Bucket{Watch: 1, Weight: weight}), api.ErrGroup)
		}
	}
}

func TestRightActions(t *testing.T) { // P10.2, Words: ErrAct
	rightOnes := []api.Action{output(1), output(4294967295), {Kind: api.Push}, {Kind: api.Pop},
		{Kind: api.Set, Field: api.Vlan, Value: 4096}, {Kind: api.Set, Field: api.Dport, Value: 65535}}
	wrongOnes := []api.Action{{}, output(0), output(4294967296), {Kind: api.ToGroup}, {Kind: api.ToGroup, Field: 1, Value: 1}, {Kind: api.Push, Value: 1},
		{Kind: api.Pop, Field: api.Vlan}, {Kind: api.Set, Field: api.Vlan, Value: 4095}, {Kind: api.Set, Field: api.Proto, Value: 6}, {Kind: 6, Value: 1}, {Kind: -1}}
	for _, kind := range kinds {
		for _, a := range rightOnes {
			checkRight(t, with(kind, api.Bucket{Watch: 1, Actions: []api.Action{a, a}}), api.OK)
		}
		for _, a := range wrongOnes {
			for place := range 8 {
				l := actions(8)
				l[place] = a
				checkRight(t, with(kind, api.Bucket{Watch: 1, Actions: l}), api.ErrAct)
			}
		}
	}
}

// wrongBuckets are each beyond one limit.
func wrongBuckets() []api.Bucket {
	return []api.Bucket{{Watch: -1}, {Watch: 17}, {Watch: 1, Weight: -1}, {Watch: 1, Weight: 65536}, {Watch: 1, Actions: actions(9)}}
}

func TestEachBucketIsLookedAt(t *testing.T) { // P10.2, Words
	bad := api.Bucket{Watch: 1, Actions: []api.Action{output(1), {}}}
	for _, kind := range []int{api.All, api.Select, api.Failover} {
		for place := range 16 {
			for _, b := range wrongBuckets() {
				g := buckets(kind, 16)
				g.Buckets[place] = b
				checkRight(t, g, api.ErrGroup)
			}
			g := buckets(kind, 16)
			g.Buckets[place] = bad
			checkRight(t, g, api.ErrAct)
		}
	}
	g := buckets(api.Failover, 3)
	g.Buckets[2].Watch = 0
	checkRight(t, g, api.ErrGroup)
}

func TestFormIsNamedAheadOfActions(t *testing.T) { // P10.2, R1
	bad := api.Bucket{Watch: 1, Actions: []api.Action{{}}}
	for _, kind := range []int{api.All, api.Select, api.Failover} {
		for _, b := range wrongBuckets() {
			for _, l := range [][]api.Bucket{{bad, b}, {b, bad}, {bad, bad, {Watch: 2}, b}} {
				checkRight(t, api.Group{ID: 5, Kind: kind, Buckets: l}, api.ErrGroup)
			}
			b.Actions = append(slices.Clone(b.Actions), api.Action{})
			checkRight(t, with(kind, b), api.ErrGroup)
		}
		checkRight(t, api.Group{ID: 5, Kind: kind, Buckets: slices.Repeat([]api.Bucket{bad}, 16)}, api.ErrAct)
		checkRight(t, api.Group{ID: 5, Kind: kind, Buckets: slices.Repeat([]api.Bucket{bad}, 17)}, api.ErrGroup)
		checkRight(t, with(kind, api.Bucket{Watch: 1, Actions: make([]api.Action, 8)}), api.ErrAct)
		checkRight(t, with(kind, api.Bucket{Watch: 1, Actions: make([]api.Action, 9)}), api.ErrGroup)
	}
	for _, g := range []api.Group{{ID: 0, Kind: api.All}, {ID: 65536, Kind: api.All}, {ID: 5, Kind: 0}, {ID: 5, Kind: 5}} {
		g.Buckets = []api.Bucket{bad}
		checkRight(t, g, api.ErrGroup)
	}
	checkRight(t, api.Group{ID: 5, Kind: api.Indirect, Buckets: []api.Bucket{bad, bad}}, api.ErrGroup)
	checkRight(t, with(api.Indirect, bad), api.ErrAct)
	checkRight(t, with(api.Failover, api.Bucket{Actions: []api.Action{{}}}), api.ErrGroup)
}
