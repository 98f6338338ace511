package table

import (
	"math/rand"
	"testing"

	"drover/api"
	"drover/field"
	"drover/match"
)

// pool is tests that often meet, cover each other, or are the same.
func pool() [][]api.Test {
	return [][]api.Test{
		nil, {}, {inPort(1)}, {inPort(2)}, {{Field: api.InPort, Value: 1, Mask: 1}}, {{Field: api.InPort, Value: 0, Mask: 1}},
		{meta(1, 1)}, {meta(0, 1)}, {meta(2, 3)}, {meta(2, 2)}, {inPort(1), meta(1, 1)}, {inPort(1), vlan(1)}, {vlan(1)},
		{{Field: api.Vlan, Value: 0, Mask: 8191}}, {inner()}, {vlan(1), inner()}, {inner(), src(10<<24, 255<<24)},
		{inner(), src(10<<24+1, 1<<32-1)}, {inner(), dst(7)}, {inner(), src(10<<24, 255<<24), dst(7)}, {inner(), proto(6)},
		{inner(), proto(17)}, {inner(), proto(6), dport(80)}, {inner(), proto(17), dport(80)}, {inPort(2), inner(), proto(6)},
	}
}

func anySeen(r *rand.Rand) field.Seen {
	return field.Seen{In: r.Intn(4), Meta: uint64(r.Intn(4)), P: api.Packet{
		Vlan: []int{0, 4097, 4098}[r.Intn(3)], Type: []int{0x0800, 0x0800, 0x88b5}[r.Intn(3)],
		Src: 10<<24 + uint32(r.Intn(3)), Dst: uint32(6 + r.Intn(2)), Proto: []int{6, 17, 1}[r.Intn(3)], Dport: 80 + r.Intn(2)}}
}

// anyEntry is of few tables, Priorities and Tests, so that it often meets others, and at times it is not right.
func anyEntry(r *rand.Rand, tables int) api.Entry {
	x := api.Entry{Table: r.Intn(tables), Priority: []int{0, 1, 1, 2, 65535}[r.Intn(5)], Tests: pool()[r.Intn(len(pool()))]}
	x.Apply, x.Write = actions(r.Intn(3)), actions(r.Intn(3))
	x.Clear = r.Intn(2) == 0
	x.MetaMask = uint64(r.Intn(8))
	x.Meta = x.MetaMask & uint64(r.Intn(8))
	x.Meter = r.Intn(17)
	if x.Table < 7 && r.Intn(2) == 0 {
		x.Goto = x.Table + 1
	}
	if r.Intn(12) == 0 {
		part := faults()[r.Intn(len(faults()))]
		part[r.Intn(len(part))].do(&x)
	}
	return x
}

// anyCall puts more often than it deletes.
func anyCall(r *rand.Rand, tables int) call {
	x := anyEntry(r, tables)
	switch n := r.Intn(20); {
	case n < 12:
		return call{"Add", x, r.Intn(3) == 0}
	case n < 16:
		return call{"Modify", x, r.Intn(2) == 0}
	}
	return call{"Delete", x, r.Intn(3) > 0}
}

// P11.2 to P11.4: long runs are as the words say.
func TestLongRunsAreAsTheWordsSay(t *testing.T) {
	r := rand.New(rand.NewSource(11))
	seen := map[api.Errno]int{}
	for range 40 {
		room, tables := 1+r.Intn(12), 1+r.Intn(3)
		f, m := flows(t, room), &model{room: room}
		for range 150 {
			c := anyCall(r, tables)
			before := text(c.x)
			e, want := c.of(f), c.ofModel(m)
			seen[e]++
			if e != want || text(c.x) != before {
				t.Fatalf("%s(%s, %v): %d, not %d", c.name, before, c.how, int(e), int(want))
			}
			for table := range tables + 1 {
				if text(f.List(table)) != text(m.list(table)) {
					t.Fatalf("behind %s(%s, %v): %+v, not %+v", c.name, before, c.how, f.List(table), m.list(table))
				}
				s := anySeen(r)
				if x, is := m.look(table, s); is {
					checkLook(t, f, table, s, x)
				} else {
					checkNothing(t, f, table, s)
				}
			}
			spoil(c.x) // the caller may
		}
	}
	for _, e := range []api.Errno{api.OK, api.ErrTable, api.ErrAct, api.ErrBig, api.ErrMeter, api.ErrInstr, api.ErrField, api.ErrMatch, api.ErrArg, api.ErrClash, api.ErrFull} {
		if seen[e] < 5 {
			t.Errorf("the error %d came %d times alone", int(e), seen[e])
		}
	}
}

// P11.5, whole: over long runs, also of tables that are full.
func TestWhatFollows(t *testing.T) {
	r := rand.New(rand.NewSource(115))
	for range 30 {
		room, tables := []int{1, 2, 5, 30, 256}[r.Intn(5)], []int{1, 2, 8}[r.Intn(3)]
		f := flows(t, room)
		for range 300 {
			c := anyCall(r, tables)
			if e := c.of(f); e == api.OK {
				checkKept(t, f, c)
			}
			for table := range tables {
				checkNoTwins(t, f, table, room)
			}
			checkGreatest(t, f, r.Intn(tables), anySeen(r))
		}
		if t.Failed() {
			return
		}
	}
}

// twins are how many of a table have one Priority and the same Tests.
func twins(l []api.Entry, x api.Entry) int {
	n := 0
	for _, y := range l {
		if y.Priority == x.Priority && text(y.Tests) == text(x.Tests) {
			n++
		}
	}
	return n
}

func checkNoTwins(t *testing.T, f *Flows, table, room int) {
	t.Helper()
	l := f.List(table)
	for i, x := range l {
		if n := twins(l, x); n != 1 {
			t.Errorf("%d times: %+v", n, x)
		}
		if x.Table != table || i > 0 && x.Priority > l[i-1].Priority {
			t.Errorf("in table %d at place %d: %+v", table, i, x)
		}
	}
	if len(l) > room {
		t.Errorf("%d entries, where there is room for %d", len(l), room)
	}
}

// checkKept sees to it that what is added is there, and what is deleted is not.
func checkKept(t *testing.T, f *Flows, c call) {
	t.Helper()
	l := f.List(c.x.Table)
	switch c.name {
	case "Add":
		n := 0
		for _, y := range l {
			if text(y) == text(c.x) {
				n++
			}
		}
		if n != 1 {
			t.Errorf("%d times behind its Add: %+v", n, c.x)
		}
	case "Delete":
		if twins(l, c.x) != 0 {
			t.Errorf("behind its Delete: %+v", c.x)
		}
		for _, y := range l {
			if !c.how && match.Covers(c.x.Tests, y.Tests) {
				t.Errorf("behind the Delete of %+v: %+v", c.x, y)
			}
		}
	}
}

// checkGreatest sees to it that Look's is of the greatest Priority of those that take the packet.
func checkGreatest(t *testing.T, f *Flows, table int, s field.Seen) {
	t.Helper()
	greatest, found := -1, 0
	x, is := f.Look(table, s)
	for _, y := range f.List(table) {
		if match.Takes(y.Tests, s) {
			greatest = max(greatest, y.Priority)
		}
		if text(x) == text(y) {
			found++
		}
	}
	switch {
	case !is:
		checkNothing(t, f, table, s)
		if greatest >= 0 {
			t.Errorf("Look(%d, %+v): nothing, where one of Priority %d takes it", table, s, greatest)
		}
	case x.Priority != greatest || found != 1 || !match.Takes(x.Tests, s):
		t.Errorf("Look(%d, %+v): %+v, where the greatest Priority is %d", table, s, x, greatest)
	}
}

func TestSameCallsSameAnswers(t *testing.T) { // R3: also with other calls between, on another object
	r := rand.New(rand.NewSource(33))
	a, b, other := flows(t, 20), flows(t, 20), flows(t, 3)
	for range 1500 {
		c := anyCall(r, 2)
		eA := c.of(a)
		anyCall(r, 2).of(other)
		other.Look(r.Intn(2), anySeen(r))
		if eB := c.of(b); eA != eB || state(a) != state(b) {
			t.Fatalf("%s(%+v, %v): %d, and %d", c.name, c.x, c.how, int(eA), int(eB))
		}
	}
}
