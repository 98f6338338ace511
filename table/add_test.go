package table

import (
	"slices"
	"testing"

	"drover/api"
)

// TestAddErrors has each error alone, each two that apply at once, and all of the rest: the one that is named first is answered.
func TestAddErrors(t *testing.T) { // P11.2, R1
	order := []api.Errno{api.ErrInstr, api.ErrMatch, api.ErrArg, api.ErrClash, api.ErrFull}
	for some := range 1 << len(order) {
		has := func(e api.Errno) bool { return some>>slices.Index(order, e)&1 == 1 }
		want := api.OK
		for _, e := range slices.Backward(order) {
			if has(e) {
				want = e
			}
		}
		f := flows(t, 3, entry(0, 5, 1, inPort(1)), entry(0, 5, 2, inPort(2)))
		if has(api.ErrFull) {
			checkDone(t, f, call{"Add", entry(0, 4, 3), false})
		}
		x := entry(0, 5, 9, inPort(3))
		if has(api.ErrClash) {
			x.Tests = []api.Test{meta(1, 1)}
		}
		if has(api.ErrArg) {
			x.Priority = 65536
		}
		if has(api.ErrMatch) {
			x.Tests = append(x.Tests, inPort(1))
		}
		if has(api.ErrInstr) {
			x.Goto = 8
		}
		if want != api.OK {
			checkRefused(t, f, call{"Add", x, true}, want)
			continue
		}
		checkDone(t, f, call{"Add", x, true})
		checkList(t, f, 0, entry(0, 5, 1, inPort(1)), entry(0, 5, 2, inPort(2)), x)
	}
}

// besides are tests, and others beside them.
var besides = []struct {
	name             string
	x, y             []api.Test
	meets, isTheSame bool
}{
	{"both for all", nil, nil, true, true},
	{"the same", []api.Test{inPort(1)}, []api.Test{inPort(1)}, true, true},
	{"the same of all fields", nineTests(), nineTests(), true, true},
	{"one of them for all", []api.Test{inPort(1)}, nil, true, false},
	{"the other one for all", nil, []api.Test{inPort(1)}, true, false},
	{"of other fields", []api.Test{inPort(1)}, []api.Test{meta(1, 1)}, true, false},
	{"of other bits", []api.Test{meta(1, 1)}, []api.Test{meta(2, 2)}, true, false},
	{"of other bits, and some in common", []api.Test{meta(3, 7)}, []api.Test{meta(2, 10)}, true, false},
	{"of the same Value under another Mask", []api.Test{meta(0, 1)}, []api.Test{meta(0, 2)}, true, false},
	{"with one more", []api.Test{inPort(1)}, []api.Test{inPort(1), vlan(1)}, true, false},
	{"with one less", []api.Test{inner(), proto(6), dport(80)}, []api.Test{inner(), proto(6)}, true, false},
	{"of another Value", []api.Test{inPort(1)}, []api.Test{inPort(2)}, false, false},
	{"of another bit in common", []api.Test{meta(3, 7)}, []api.Test{meta(0, 10)}, false, false},
	{"of another Value behind what is the same", []api.Test{inPort(1), vlan(1)}, []api.Test{inPort(1), vlan(2)}, false, false},
	{"of another Value ahead of others", []api.Test{inPort(1), vlan(1)}, []api.Test{inPort(2), inner()}, false, false},
}

func TestAddBesideOneOfItsPriority(t *testing.T) { // P11.2
	for _, c := range besides {
		y, x := rich(2, 5, 1, c.y...), rich(2, 5, 2, c.x...)
		for _, check := range []bool{false, true} {
			f := flows(t, 2, y)
			switch {
			case check && c.meets:
				checkRefused(t, f, call{"Add", x, check}, api.ErrClash)
			case c.isTheSame:
				checkDone(t, f, call{"Add", x, check})
				checkList(t, f, 2, x)
			default:
				checkDone(t, f, call{"Add", x, check})
				checkList(t, f, 2, y, x)
			}
			if t.Failed() {
				t.Fatalf("%s, check %v", c.name, check)
			}
		}
	}
}

func TestAddBesideOneOfAnotherPriorityOrTable(t *testing.T) { // P11.2
	for _, c := range besides {
		for _, check := range []bool{false, true} {
			y := rich(2, 5, 1, c.y...)
			f := flows(t, 3, y)
			above, below, before, behind := rich(2, 6, 2, c.x...), rich(2, 4, 3, c.x...), rich(1, 5, 4, c.x...), rich(3, 5, 5, c.x...)
			for _, x := range []api.Entry{below, above, before, behind} {
				checkDone(t, f, call{"Add", x, check})
			}
			checkList(t, f, 1, before)
			checkList(t, f, 2, above, y, below)
			checkList(t, f, 3, behind)
			if t.Failed() {
				t.Fatalf("%s, check %v", c.name, check)
			}
		}
	}
}

func TestAddMeetsAnyOne(t *testing.T) { // P11.2: wherever it stands among others
	for place := range 5 {
		f := flows(t, 16, entry(0, 9, 1), entry(0, 1, 1), entry(1, 5, 1))
		for i := range 5 {
			checkDone(t, f, call{"Add", entry(0, 5, uint64(i), inPort(uint64(i))), true})
		}
		checkRefused(t, f, call{"Add", entry(0, 5, 9, inPort(uint64(place)), vlan(1)), true}, api.ErrClash)
		checkRefused(t, f, call{"Add", entry(0, 5, 9, inPort(uint64(place))), true}, api.ErrClash)
		checkRefused(t, f, call{"Add", entry(0, 5, 9, vlan(1)), true}, api.ErrClash)
		checkDone(t, f, call{"Delete", entry(0, 5, 0, inPort(uint64(place))), true})
		checkDone(t, f, call{"Add", entry(0, 5, 9, inPort(uint64(place)), vlan(1)), true})
	}
}

func TestAddInThePlaceOfOne(t *testing.T) { // P11.2, Words: among others of its Priority, and with a table that is full
	for _, room := range []int{5, 6} {
		for place := range 3 {
			want := []api.Entry{rich(0, 6, 1), rich(0, 5, 2, inPort(1)), rich(0, 5, 3), rich(0, 5, 4, inPort(2)), rich(0, 4, 5)}
			f := flows(t, room, want[4], want[1], want[2], want[0], want[3])
			for mark := range uint64(3) { // more than once
				x := rich(0, 5, 10+mark, want[1+place].Tests...)
				checkRefused(t, f, call{"Add", x, true}, api.ErrClash)
				checkDone(t, f, call{"Add", x, false})
				want[1+place] = x
				checkList(t, f, 0, want...)
			}
			x := rich(0, 5, 20, inPort(3))
			if room == 5 {
				checkRefused(t, f, call{"Add", x, false}, api.ErrFull)
				continue
			}
			checkDone(t, f, call{"Add", x, false})
			checkList(t, f, 0, slices.Insert(want, 4, x)...)
		}
	}
}

func TestAddInThePlaceOfOneLeavesNothingOfIt(t *testing.T) { // P11.2
	f := flows(t, 1, rich(0, 5, 1, inPort(1)))
	x := api.Entry{Priority: 5, Tests: []api.Test{inPort(1)}}
	checkDone(t, f, call{"Add", x, false})
	checkList(t, f, 0, x)
}

func TestFull(t *testing.T) { // P11.1, P11.2: each table has its own room
	for _, room := range []int{1, 2, 255, 256} {
		f := flows(t, room)
		for table := range 8 {
			for i := range room {
				checkDone(t, f, call{"Add", entry(table, i%3, 1, inPort(uint64(i))), true})
			}
			for _, check := range []bool{false, true} {
				checkRefused(t, f, call{"Add", entry(table, 4, 1), check}, api.ErrFull)
				checkRefused(t, f, call{"Add", entry(table, 0, 1, inPort(1000)), check}, api.ErrFull)
			}
			for other := range 8 {
				if n := len(f.List(other)); (n == room) != (other <= table) || (n == 0) != (other > table) {
					t.Fatalf("behind table %d, table %d has %d of %d", table, other, n, room)
				}
			}
		}
		checkDone(t, f, call{"Delete", entry(3, 0, 1, inPort(0)), true})
		checkRefused(t, f, call{"Add", entry(2, 4, 1), false}, api.ErrFull)
		checkDone(t, f, call{"Add", entry(3, 4, 1), false})
		checkRefused(t, f, call{"Add", entry(3, 5, 1), false}, api.ErrFull)
	}
}

func TestOrder(t *testing.T) { // Words: by falling Priority, of one Priority by when they were put
	f := flows(t, 16)
	var want []api.Entry
	for i, priority := range []int{5, 0, 65535, 5, 65535, 0, 4, 5, 6, 0} {
		x := entry(0, priority, uint64(i), inPort(uint64(9-i)))
		checkDone(t, f, call{"Add", x, false})
		want = append(want, x)
	}
	want = []api.Entry{want[2], want[4], want[8], want[0], want[3], want[7], want[6], want[1], want[5], want[9]}
	checkList(t, f, 0, want...)
}

func TestOrderOfOnePriority(t *testing.T) { // Words: the order is that of putting, not that of what is asked
	x := func(n, mark uint64) api.Entry { return rich(0, 5, mark, vlan(n)) }
	f := flows(t, 4, x(3, 1), x(1, 2), x(4, 3), x(2, 4))
	checkList(t, f, 0, x(3, 1), x(1, 2), x(4, 3), x(2, 4))
	checkDone(t, f, call{"Add", x(1, 5), false}) // in another one's place
	checkList(t, f, 0, x(3, 1), x(1, 5), x(4, 3), x(2, 4))
	checkDone(t, f, call{"Modify", x(3, 6), true})
	checkDone(t, f, call{"Modify", x(4, 7), false})
	checkList(t, f, 0, x(3, 6), x(1, 5), x(4, 7), x(2, 4))
	checkDone(t, f, call{"Delete", x(3, 0), true}) // and put again
	checkList(t, f, 0, x(1, 5), x(4, 7), x(2, 4))
	checkDone(t, f, call{"Add", x(3, 8), false})
	checkList(t, f, 0, x(1, 5), x(4, 7), x(2, 4), x(3, 8))
	checkDone(t, f, call{"Delete", x(4, 0), false})
	checkDone(t, f, call{"Add", x(4, 7), true})
	checkList(t, f, 0, x(1, 5), x(2, 4), x(3, 8), x(4, 7))
	checkDone(t, f, call{"Add", x(2, 9), false}) // in a place that it has come to
	checkList(t, f, 0, x(1, 5), x(2, 9), x(3, 8), x(4, 7))
}
