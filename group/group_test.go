package group

import (
	"math"
	"math/rand"
	"slices"
	"testing"

	"drover/api"
)

// to is a group that leads to others: to each by an action of its own, of which two at most stand in a bucket.
func to(id int, l ...int) api.Group {
	g := api.Group{ID: id, Kind: api.All}
	for i, n := range l {
		if i%2 == 0 {
			g.Buckets = append(g.Buckets, api.Bucket{Weight: n % 3})
		}
		last := &g.Buckets[len(g.Buckets)-1]
		last.Actions = append(last.Actions, toGroup(n))
	}
	return g
}

func checkAdd(t *testing.T, x *Table, g api.Group, want api.Errno) {
	t.Helper()
	checkCall(t, x, call{"Add", g}, want)
}

func checkModify(t *testing.T, x *Table, g api.Group, want api.Errno) {
	t.Helper()
	checkCall(t, x, call{"Modify", g}, want)
}

func checkDelete(t *testing.T, x *Table, id int, want api.Errno) {
	t.Helper()
	checkCall(t, x, call{"Delete", api.Group{ID: id}}, want)
}

// checkCall also sees to it that the right group is changed, or nothing, if there is an error.
func checkCall(t *testing.T, x *Table, c call, want api.Errno) {
	t.Helper()
	after := x.List()
	if want == api.OK {
		after = slices.DeleteFunc(after, func(g api.Group) bool { return g.ID == c.g.ID })
		if c.name != "Delete" {
			after = append(after, apart(c.g))
		}
		slices.SortFunc(after, func(a, b api.Group) int { return a.ID - b.ID })
	}
	if e := c.of(x); e != want {
		t.Errorf("%s of %+v: %d, not %d", c.name, c.g, int(e), int(want))
	}
	checkList(t, x, after...)
}

func checkGet(t *testing.T, x *Table, id int, want api.Group) {
	t.Helper()
	if g, e := x.Get(id); text(g) != text(want) || e != api.OK {
		t.Errorf("Get(%d): %+v, %d, not %+v", id, g, int(e), want)
	}
}

func checkGetRefused(t *testing.T, x *Table, id int, want api.Errno) {
	t.Helper()
	if g, e := x.Get(id); g.ID != 0 || g.Kind != 0 || g.Buckets != nil || e != want {
		t.Errorf("Get(%d): %+v, %d, not %d", id, g, int(e), int(want))
	}
}

// call is an Add, a Modify or a Delete (of the ID alone).
type call struct {
	name string
	g    api.Group
}

func (c call) of(x *Table) api.Errno {
	switch c.name {
	case "Add":
		return x.Add(c.g)
	case "Modify":
		return x.Modify(c.g)
	}
	return x.Delete(c.g.ID)
}

func (c call) ofModel(m *model) api.Errno {
	switch c.name {
	case "Add":
		return m.add(c.g)
	case "Modify":
		return m.modify(c.g)
	}
	return m.delete(c.g.ID)
}

func TestNew(t *testing.T) { // P10.1
	for room := 1; room <= 64; room++ {
		x := table(t, room)
		checkList(t, x)
		for id := 1; id <= room; id++ {
			checkGetRefused(t, x, id, api.ErrNone)
			checkAdd(t, x, to(id), api.OK)
		}
		checkAdd(t, x, to(room+1), api.ErrFull)
		checkDelete(t, x, 1, api.OK)
		checkAdd(t, x, to(room+1), api.OK)
		checkAdd(t, x, to(1), api.ErrFull)
	}
}

func TestNewRefuses(t *testing.T) { // P10.1, R1
	for _, room := range []int{-1, 0, 65, -2, -64, 66, 256 + 1, 1<<32 + 1, math.MinInt, math.MaxInt} {
		if x, e := New(room); x != nil || e != api.ErrArg {
			t.Errorf("New(%d): %v %d", room, x, int(e))
		}
	}
}

func TestExample(t *testing.T) { // Examples
	checkAdd(t, table(t, 4), to(1, 1), api.ErrNone)
}

// TestAddErrors has each error alone, each two that apply at once, and all of the rest: the one that is named first is answered.
func TestAddErrors(t *testing.T) { // P10.2, R1
	order := []api.Errno{api.ErrGroup, api.ErrAct, api.ErrTwice, api.ErrNone, api.ErrFull}
	for some := range 1 << len(order) {
		has := func(e api.Errno) bool { return some>>slices.Index(order, e)&1 == 1 }
		want := api.OK
		for _, e := range slices.Backward(order) {
			if has(e) {
				want = e
			}
		}
		x := table(t, 3, to(1), to(2, 1))
		if has(api.ErrFull) {
			x.Add(to(3))
		}
		g := to(4, 1, 2)
		if has(api.ErrTwice) {
			g.ID = 1
		}
		if has(api.ErrNone) {
			g.Buckets[0].Actions = append(g.Buckets[0].Actions, toGroup(9))
		}
		if has(api.ErrAct) {
			g.Buckets[0].Actions = append(g.Buckets[0].Actions, api.Action{})
		}
		if has(api.ErrGroup) {
			g.Buckets = append(g.Buckets, api.Bucket{Weight: -1})
		}
		checkAdd(t, x, g, want)
	}
}

func TestAddTwice(t *testing.T) { // P10.2: also of the same group, and of one that would come round
	x := table(t, 4, to(1), to(2, 1))
	for _, g := range []api.Group{to(1), to(2, 1), group(1, api.Failover), to(1, 1), to(1, 2), to(2), to(1, 9)} {
		checkAdd(t, x, g, api.ErrTwice)
	}
}

func TestAddLeadsToNone(t *testing.T) { // P10.2
	x := table(t, 4, to(1), to(65535))
	for _, l := range [][]int{{2}, {3}, {1, 3}, {3, 1}, {1, 1, 1, 3}, {2, 1}, {65536}, {65536 + 1}, {65534}, {4294967295}, {1, 65535, 4}} {
		checkAdd(t, x, to(2, l...), api.ErrNone)
	}
	for place := range 16 { // wherever the action stands
		for k := range 8 {
			g := buckets(api.All, 16)
			for i := range g.Buckets {
				g.Buckets[i].Actions = actions(8)
			}
			g.Buckets[place].Actions[k] = toGroup(9)
			checkAdd(t, x, g, api.ErrNone)
		}
	}
	checkAdd(t, x, to(2, 1, 65535, 1), api.OK)
}

func TestOnlyToGroupLeads(t *testing.T) { // Words: an Output, or a Set, of the number of a group that is not there
	g := api.Group{ID: 1, Kind: api.All, Buckets: []api.Bucket{{Watch: 9, Weight: 9,
		Actions: []api.Action{output(9), output(1), {Kind: api.Set, Field: api.Dport, Value: 9}, {Kind: api.Push}, {Kind: api.Pop}}}}}
	x := table(t, 4)
	checkAdd(t, x, g, api.OK)
	checkModify(t, x, g, api.OK)
	checkAdd(t, x, to(2), api.OK)
	checkAdd(t, x, api.Group{ID: 3, Kind: api.All, Buckets: []api.Bucket{{Actions: []api.Action{output(2)}}}}, api.OK)
	checkDelete(t, x, 2, api.OK)
	checkDelete(t, x, 1, api.OK)
}

func TestGroupsOfEachKindLead(t *testing.T) { // Words: whether a bucket is alive, and what it weighs, does not count
	for _, kind := range kinds {
		x := table(t, 4, to(1))
		g := api.Group{ID: 2, Kind: kind, Buckets: []api.Bucket{{Watch: 3, Actions: []api.Action{toGroup(1)}}}}
		checkAdd(t, x, g, api.OK)
		checkDelete(t, x, 1, api.ErrLoop)
		checkModify(t, x, to(1, 2), api.ErrLoop)
		g.Buckets[0].Actions[0] = toGroup(2)
		checkModify(t, x, g, api.ErrLoop)
		g.Buckets[0].Actions[0] = toGroup(3)
		checkModify(t, x, g, api.ErrNone)
		checkDelete(t, x, 2, api.OK)
		checkAdd(t, x, g, api.ErrNone)
	}
}

// TestModifyErrors has each error alone, each two that apply at once, and all of the rest.
func TestModifyErrors(t *testing.T) { // P10.2, R1
	order := []string{"group", "act", "not there", "leads to none", "comes round"}
	errs := []api.Errno{api.ErrGroup, api.ErrAct, api.ErrNone, api.ErrNone, api.ErrLoop}
	for some := range 1 << len(order) {
		for _, full := range []bool{false, true} {
			has := func(word string) bool { return some>>slices.Index(order, word)&1 == 1 }
			want := api.OK
			for i, e := range slices.Backward(errs) {
				if some>>i&1 == 1 {
					want = e
				}
			}
			x := table(t, 3, to(1), to(2, 1))
			if full { // which is nothing to Modify
				x.Add(to(3))
			}
			g := to(2, 1, 1)
			if has("not there") {
				g.ID = 5
			}
			if has("leads to none") {
				g.Buckets[0].Actions = append(g.Buckets[0].Actions, toGroup(9))
			}
			if has("comes round") {
				g.Buckets[0].Actions = append(g.Buckets[0].Actions, toGroup(2), toGroup(g.ID))
			}
			if has("act") {
				g.Buckets[0].Actions = append(g.Buckets[0].Actions, api.Action{})
			}
			if has("group") {
				g.Buckets = append(g.Buckets, api.Bucket{Watch: 17})
			}
			checkModify(t, x, g, want)
		}
	}
}

func TestModifyIsInThatOnesPlace(t *testing.T) { // P10.2, P10.3
	x := table(t, 3, to(3), to(1), to(2, 3))
	checkModify(t, x, group(3, api.Failover), api.OK)
	checkGet(t, x, 3, group(3, api.Failover))
	checkModify(t, x, to(3, 1, 1), api.OK)
	checkGet(t, x, 3, to(3, 1, 1))
	checkModify(t, x, to(3, 1, 1), api.OK) // as it is
	checkModify(t, x, buckets(api.Select, 16), api.ErrNone)
	checkModify(t, x, api.Group{ID: 3, Kind: api.Select}, api.OK)
	checkGet(t, x, 3, api.Group{ID: 3, Kind: api.Select})
	checkGet(t, x, 2, to(2, 3))
	checkGet(t, x, 1, to(1))
}

func TestLoops(t *testing.T) { // P10.2
	x := table(t, 8, to(1), to(2), to(3), to(4))
	for id := 1; id <= 4; id++ { // of one group
		checkModify(t, x, to(id, id), api.ErrLoop)
		checkModify(t, x, to(id, 1+id%4, id), api.ErrLoop)
	}
	checkModify(t, x, to(1, 2), api.OK)
	checkModify(t, x, to(2, 1), api.ErrLoop) // of two
	checkModify(t, x, to(2, 3), api.OK)
	checkModify(t, x, to(3, 1), api.ErrLoop) // of three
	checkModify(t, x, to(3, 2), api.ErrLoop)
	checkModify(t, x, to(3, 4, 4), api.OK)
	for _, l := range [][]int{{1}, {2}, {3}, {4}, {1, 2}, {2, 3, 1}, {4, 1}} {
		checkModify(t, x, to(4, l...), api.ErrLoop)
	}
	checkModify(t, x, to(1), api.OK) // now from 1 one comes nowhere
	checkModify(t, x, to(4, 1), api.OK)
	checkModify(t, x, to(1, 2), api.ErrLoop)
	checkModify(t, x, to(1, 4), api.ErrLoop)
}

func TestLongLoop(t *testing.T) { // P10.2: through all groups of a table that is full
	x := table(t, 64, to(100))
	for id := 101; id < 164; id++ {
		checkAdd(t, x, to(id, id-1), api.OK)
	}
	for id := 100; id < 164; id++ {
		checkModify(t, x, to(100, id), api.ErrLoop)
	}
	checkModify(t, x, to(131), api.OK) // in the middle: the first half is loose
	for id := 100; id < 131; id++ {
		checkModify(t, x, to(100, id), api.ErrLoop)
	}
	checkModify(t, x, to(100, 163), api.OK)
	checkModify(t, x, to(131, 130), api.ErrLoop)
}

func TestTwoWaysAreNoLoop(t *testing.T) { // P10.2
	x := table(t, 8, to(1), to(2, 1), to(3, 1))
	checkAdd(t, x, to(4, 2, 3, 1), api.OK)
	checkModify(t, x, to(4, 3, 2, 3), api.OK)
	checkModify(t, x, to(3, 2, 1), api.OK)
	checkModify(t, x, to(1, 1), api.ErrLoop)
	for id := 2; id <= 4; id++ {
		checkModify(t, x, to(1, id), api.ErrLoop)
	}
}

func TestLoopElsewhereIsNone(t *testing.T) { // P10.2: what one comes to is counted from the new group on, not from the old one
	x := table(t, 8, to(1), to(2), to(3, 2))
	checkModify(t, x, to(2, 1), api.OK)
	checkModify(t, x, to(3, 1), api.OK)
	checkModify(t, x, to(2, 3), api.OK) // 3 led to 2 once
	checkModify(t, x, to(3, 2), api.ErrLoop)
}

// P10.2, R1: there are more ways through the groups than can be gone one by one.
func TestManyWays(t *testing.T) {
	x := table(t, 64)
	for id := 1; id <= 64; id++ {
		var below []int
		for n := max(1, id-30); n < id; n++ {
			below = append(below, n)
		}
		checkAdd(t, x, to(id, below...), api.OK)
	}
	checkModify(t, x, to(1, 64), api.ErrLoop)
	checkModify(t, x, to(2, 64, 63), api.ErrLoop)
	checkModify(t, x, to(64, 63, 62), api.OK)
	checkDelete(t, x, 1, api.ErrLoop)
	checkDelete(t, x, 64, api.OK)
}

func TestDelete(t *testing.T) { // P10.2, P10.5
	x := table(t, 4, to(1), to(2, 1), to(3, 2))
	for _, id := range []int{0, -1, 4, 5, 65535, 65536, 65536 + 1, 1<<32 + 1, math.MinInt, math.MaxInt} {
		checkDelete(t, x, id, api.ErrNone)
	}
	checkDelete(t, x, 1, api.ErrLoop)
	checkDelete(t, x, 2, api.ErrLoop)
	checkDelete(t, x, 3, api.OK)
	checkDelete(t, x, 3, api.ErrNone)
	checkGetRefused(t, x, 3, api.ErrNone)
	checkDelete(t, x, 1, api.ErrLoop)
	checkDelete(t, x, 2, api.OK) // behind the Delete of the one that led to it
	checkDelete(t, x, 1, api.OK)
	checkDelete(t, x, 1, api.ErrNone)
	checkList(t, x)
}

func TestDeleteBehindModify(t *testing.T) { // P10.2
	x := table(t, 4, to(1), to(2, 1), to(3, 2, 1))
	checkModify(t, x, to(2), api.OK)
	checkDelete(t, x, 1, api.ErrLoop) // 3 leads to it still
	checkModify(t, x, to(3, 2), api.OK)
	checkDelete(t, x, 1, api.OK)
	checkModify(t, x, to(3, 1), api.ErrNone)
	checkModify(t, x, to(2, 1), api.ErrNone)
	checkDelete(t, x, 2, api.ErrLoop)
	checkAdd(t, x, to(1, 3), api.OK)
	checkDelete(t, x, 3, api.ErrLoop) // it leads to one, and another one leads to it
	checkModify(t, x, to(1), api.OK)
	checkDelete(t, x, 3, api.OK)
}

func TestWhatIsDeletedMayBeAddedAgain(t *testing.T) { // P10.2, P10.5
	x := table(t, 1, to(1))
	for range 100 {
		checkDelete(t, x, 1, api.OK)
		checkModify(t, x, to(1), api.ErrNone)
		checkAdd(t, x, group(1, api.Select), api.OK)
		checkAdd(t, x, to(2), api.ErrFull)
		checkGet(t, x, 1, group(1, api.Select))
	}
}

func TestGet(t *testing.T) { // P10.3
	x := table(t, 4, buckets(api.Select, 16), group(1, api.Failover), group(65535, api.Indirect), api.Group{ID: 9, Kind: api.All})
	checkGet(t, x, 5, buckets(api.Select, 16))
	checkGet(t, x, 1, group(1, api.Failover))
	checkGet(t, x, 65535, group(65535, api.Indirect))
	checkGet(t, x, 9, api.Group{ID: 9, Kind: api.All})
	for _, id := range []int{0, -1, 2, 4, 6, 65534, 65536, 65536 + 5, 1<<32 + 5, math.MinInt, math.MaxInt} {
		checkGetRefused(t, x, id, api.ErrNone)
	}
}

func TestListRises(t *testing.T) { // P10.3, R3: in whatever order they came
	r := rand.New(rand.NewSource(3))
	for range 30 {
		x := table(t, 64)
		var want []api.Group
		for _, n := range r.Perm(64) {
			g := group(1+n*1023, kinds[n%4])
			checkAdd(t, x, g, api.OK)
			want = append(want, g)
		}
		slices.SortFunc(want, func(a, b api.Group) int { return a.ID - b.ID })
		for range 5 {
			checkList(t, x, want...)
		}
		want[40] = group(want[40].ID, api.All)
		checkModify(t, x, want[40], api.OK)
		checkDelete(t, x, want[20].ID, api.OK)
		checkDelete(t, x, want[63].ID, api.OK)
		checkDelete(t, x, want[0].ID, api.OK)
		checkList(t, x, slices.Delete(want[1:63], 19, 20)...)
	}
}

func TestNilTable(t *testing.T) { // P10.1, R1: ErrNil is named ahead of all
	var x *Table
	for _, g := range []api.Group{to(1), to(1, 1), to(1, 2), {}, {ID: 65536, Kind: 9}, with(api.All, api.Bucket{Actions: make([]api.Action, 1)}), buckets(api.All, 17)} {
		checkAdd(t, x, g, api.ErrNil)
		checkModify(t, x, g, api.ErrNil)
	}
	for _, id := range []int{math.MinInt, -1, 0, 1, 5, 65535, 65536, math.MaxInt} {
		checkDelete(t, x, id, api.ErrNil)
		checkGetRefused(t, x, id, api.ErrNil)
	}
	if l := x.List(); len(l) != 0 {
		t.Errorf("%+v", l)
	}
}

func TestTableThatNobodyMade(t *testing.T) { // R1: it has no room
	var x Table
	checkAdd(t, &x, to(1), api.ErrFull)
	checkAdd(t, &x, to(1, 1), api.ErrNone)
	checkModify(t, &x, to(1), api.ErrNone)
	checkDelete(t, &x, 1, api.ErrNone)
	checkGetRefused(t, &x, 1, api.ErrNone)
	checkList(t, &x)
}

// spoil writes into all that a group shares, and behind its lengths.
func spoil(g api.Group) {
	for i := range g.Buckets {
		g.Buckets[i].Watch, g.Buckets[i].Weight = 71, 72
		l := g.Buckets[i].Actions
		for k := range l {
			l[k] = toGroup(73)
		}
		_ = append(l, toGroup(74))
		g.Buckets[i].Actions = append(l, toGroup(75))
	}
	_ = append(g.Buckets, api.Bucket{Watch: 76})
}

func TestWhatIsHandedInIsNotKept(t *testing.T) { // R2
	x := table(t, 4, to(1))
	added, put := to(2, 1, 1, 1), to(1)
	put.Buckets = buckets(api.All, 3).Buckets
	want := []api.Group{apart(put), apart(added)}
	checkAdd(t, x, added, api.OK)
	checkModify(t, x, put, api.OK)
	spoil(added)
	spoil(put)
	checkList(t, x, want...)
	checkDelete(t, x, 1, api.ErrLoop)
	checkModify(t, x, to(1, 2), api.ErrLoop)
}

func TestWhatIsAnsweredIsTheCallers(t *testing.T) { // R2
	g := to(2, 1, 1, 1)
	x := table(t, 4, to(1), g)
	for range 3 {
		got, _ := x.Get(2)
		spoil(got)
		checkGet(t, x, 2, g)
		l := x.List()
		for i := range l {
			spoil(l[i])
			l[i].ID = 99
		}
		checkList(t, x, to(1), g)
	}
	a, b := x.List(), x.List()
	one, _ := x.Get(2)
	spoil(a[1])
	if text(b[1]) != text(g) || text(one) != text(g) {
		t.Errorf("%+v, %+v", b[1], one)
	}
	checkDelete(t, x, 1, api.ErrLoop)
}

func TestOneListInTwoPlaces(t *testing.T) { // R2: buckets that were handed in with one list are answered with two
	one := []api.Action{output(1), output(2)}
	g := api.Group{ID: 1, Kind: api.All, Buckets: []api.Bucket{{Actions: one}, {Actions: one}}}
	x := table(t, 4, g)
	got, _ := x.Get(1)
	got.Buckets[0].Actions[0] = output(9)
	if got.Buckets[1].Actions[0] != output(1) || one[0] != output(1) {
		t.Errorf("%+v, of %+v", got, one)
	}
	checkGet(t, x, 1, g)
}

func TestNothingIsWrittenInto(t *testing.T) { // R2: nor behind the lengths, whatever is answered
	for _, bad := range []api.Group{{}, {ID: 1}, {ID: 2}, {ID: 9}} {
		whole := to(bad.ID, 1, 1, 2, 1).Buckets
		whole[0].Actions = append(whole[0].Actions, toGroup(5), api.Action{})[:2]
		before := text(whole) + text(whole[0].Actions[:4])
		g := api.Group{ID: bad.ID, Kind: api.All, Buckets: whole[:1]}
		x := table(t, 4, to(1), to(2, 1))
		x.Add(g)
		x.Modify(g)
		x.Delete(g.ID)
		if now := text(whole) + text(whole[0].Actions[:4]); now != before {
			t.Errorf("%s, not %s", now, before)
		}
	}
}

func TestTablesKnowNothingOfEachOther(t *testing.T) { // R3
	a, b := table(t, 2), table(t, 2)
	checkAdd(t, a, to(1), api.OK)
	checkList(t, b)
	checkAdd(t, b, to(2, 1), api.ErrNone)
	checkModify(t, b, to(1), api.ErrNone)
	checkDelete(t, b, 1, api.ErrNone)
	checkAdd(t, a, to(2, 1), api.OK)
	checkAdd(t, b, to(2), api.OK)
	checkAdd(t, b, to(1, 2), api.OK)
	checkDelete(t, b, 1, api.OK)
	checkDelete(t, a, 1, api.ErrLoop)
	checkList(t, a, to(1), to(2, 1))
	checkList(t, b, to(2))
}

// anyGroup is of few numbers, so that it often meets others, and at times it is not right.
func anyGroup(r *rand.Rand, numbers int) api.Group {
	g := api.Group{ID: 1 + r.Intn(numbers), Kind: kinds[r.Intn(len(kinds))]}
	for range r.Intn(3) {
		b := api.Bucket{Watch: 1 + r.Intn(16), Weight: r.Intn(5)}
		for range r.Intn(3) {
			switch r.Intn(4) {
			case 0:
				b.Actions = append(b.Actions, output(uint64(1+r.Intn(16))))
			default:
				b.Actions = append(b.Actions, toGroup(1+r.Intn(numbers)))
			}
		}
		g.Buckets = append(g.Buckets, b)
	}
	if g.Kind == api.Indirect && r.Intn(2) == 0 {
		g.Kind = api.All
	}
	if r.Intn(10) == 0 {
		return spoilt(r, g)
	}
	return g
}

// spoilt is a group that is often not right.
func spoilt(r *rand.Rand, g api.Group) api.Group {
	switch r.Intn(6) {
	case 0:
		g.ID = []int{0, -1, 65536, 65535}[r.Intn(4)]
	case 1:
		g.Kind = r.Intn(7) - 1
	case 2:
		g.Buckets = append(g.Buckets, api.Bucket{Watch: r.Intn(20) - 1, Weight: []int{0, -1, 65535, 65536}[r.Intn(4)]})
	case 3:
		g.Buckets = append(g.Buckets, make([]api.Bucket, 13+r.Intn(4))...)
	case 4:
		g.Buckets = append(g.Buckets, api.Bucket{Watch: 1, Actions: actions(7 + r.Intn(3))})
	case 5:
		g.Buckets = append([]api.Bucket{{Watch: 1, Actions: []api.Action{{Kind: r.Intn(7), Value: uint64(r.Intn(2))}}}}, g.Buckets...)
	}
	return g
}

func anyCall(r *rand.Rand, numbers int) call {
	switch r.Intn(5) {
	case 0, 1:
		return call{"Add", anyGroup(r, numbers)}
	case 2, 3:
		return call{"Modify", anyGroup(r, numbers)}
	}
	return call{"Delete", api.Group{ID: r.Intn(numbers + 2)}}
}

// P10.2, P10.3: long runs are as the words say.
func TestLongRunsAreAsTheWordsSay(t *testing.T) {
	r := rand.New(rand.NewSource(10))
	seen := map[api.Errno]int{}
	for range 60 {
		numbers := 1 + r.Intn(9)
		room := 1 + r.Intn(numbers)
		x, m := table(t, room), &model{room: room}
		for range 150 {
			c := anyCall(r, numbers)
			e, want := c.of(x), c.ofModel(m)
			seen[e]++
			if e != want || text(x.List()) != text(m.list()) {
				t.Fatalf("%s of %+v: %d, %+v, not %d, %+v", c.name, c.g, int(e), x.List(), int(want), m.list())
			}
			id := r.Intn(numbers + 2)
			g, e := x.Get(id)
			if wantG, want := m.get(id); e != want || text(g) != text(wantG) {
				t.Fatalf("Get(%d): %+v %d, not %+v %d", id, g, int(e), wantG, int(want))
			}
		}
	}
	for _, e := range []api.Errno{api.OK, api.ErrGroup, api.ErrAct, api.ErrTwice, api.ErrNone, api.ErrFull, api.ErrLoop} {
		if seen[e] < 20 {
			t.Errorf("the error %d came %d times alone", int(e), seen[e])
		}
	}
}

// P10.5: over long runs, also of tables that are full, one comes back to no group, and all that one leads to are there.
func TestNoGroupIsComeBackTo(t *testing.T) {
	r := rand.New(rand.NewSource(105))
	for range 40 {
		numbers := []int{2, 3, 5, 10, 64, 70}[r.Intn(6)]
		x := table(t, min(64, numbers))
		for range 400 {
			c := anyCall(r, numbers)
			e := c.of(x)
			if fault := knot(x.List()); fault != "" {
				t.Fatalf("behind %s of %+v, which answered %d: %s", c.name, c.g, int(e), fault)
			}
			checkKept(t, x, c, e)
		}
	}
}

// checkKept is the other half of P10.5: what is added is got, and what is deleted is not.
func checkKept(t *testing.T, x *Table, c call, e api.Errno) {
	t.Helper()
	switch {
	case e != api.OK:
	case c.name == "Delete":
		checkGetRefused(t, x, c.g.ID, api.ErrNone)
	default:
		checkGet(t, x, c.g.ID, c.g)
	}
}

// TestKnotsAreSeen shows that the look for loops is not blind.
func TestKnotsAreSeen(t *testing.T) {
	for _, l := range [][]api.Group{{to(1, 1)}, {to(1, 2), to(2, 1)}, {to(1, 2), to(2, 3), to(3, 1)}, {to(1), to(2, 3)}, {to(1), to(2, 1, 3), to(3, 2)}} {
		if knot(l) == "" {
			t.Errorf("%+v", l)
		}
	}
	for _, l := range [][]api.Group{nil, {to(1)}, {to(1, 2), to(2)}, {to(1), to(2, 1), to(3, 1, 2), to(4, 3, 2, 1, 1)}} {
		if fault := knot(l); fault != "" {
			t.Errorf("%+v: %s", l, fault)
		}
	}
}

func TestSameCallsSameAnswers(t *testing.T) { // R3
	r := rand.New(rand.NewSource(33))
	a, b := table(t, 20), table(t, 20)
	for range 3000 {
		c := anyCall(r, 22)
		if eA, eB := c.of(a), c.of(b); eA != eB || text(a.List()) != text(b.List()) {
			t.Fatalf("%s of %+v: %d, and %d", c.name, c.g, int(eA), int(eB))
		}
	}
}
