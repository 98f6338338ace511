package table

import (
	"testing"

	"drover/api"
)

// some are entries of two tables, by their places in order: 0 to 7 of table 1, the rest of table 2.
func some() []api.Entry {
	return []api.Entry{
		rich(1, 65535, 1),
		rich(1, 6, 2, inPort(1), vlan(1)),
		rich(1, 6, 3, inPort(1)),
		rich(1, 5, 4, inPort(2)),
		rich(1, 5, 5, inPort(1)),
		rich(1, 5, 6),
		rich(1, 5, 7, inner(), src(10<<24, 255<<24)),
		rich(1, 0, 8, inner(), src(10<<24+1, 1<<32-1), proto(6)),
		rich(2, 6, 9, inPort(1)),
		rich(2, 5, 10, inPort(1)),
		rich(2, 5, 11),
	}
}

// changes are entries, and the places of those of some that they mean, if strict, and if not.
var changes = []struct {
	name          string
	x             api.Entry
	strict, other []int
}{
	{"for all", rich(1, 5, 99), []int{5}, []int{0, 1, 2, 3, 4, 5, 6, 7}},
	{"for all, of the greatest Priority", rich(1, 65535, 99), []int{0}, []int{0, 1, 2, 3, 4, 5, 6, 7}},
	{"for all, of a Priority that none has", rich(1, 7, 99), nil, []int{0, 1, 2, 3, 4, 5, 6, 7}},
	{"for one port", rich(1, 5, 99, inPort(1)), []int{4}, []int{1, 2, 4}},
	{"for one port, of another Priority", rich(1, 6, 99, inPort(1)), []int{2}, []int{1, 2, 4}},
	{"for one port, of a Priority that none has", rich(1, 4, 99, inPort(1)), nil, []int{1, 2, 4}},
	{"for one port, of a Priority that others have", rich(1, 65535, 99, inPort(2)), nil, []int{3}},
	{"for a port that no entry has", rich(1, 5, 99, inPort(3)), nil, nil},
	{"with two tests", rich(1, 6, 99, inPort(1), vlan(1)), []int{1}, []int{1}},
	{"with a test more", rich(1, 6, 99, inPort(1), vlan(1), inner()), nil, nil},
	{"with the second test alone", rich(1, 6, 99, vlan(1)), nil, []int{1}},
	{"for one bit of a port", rich(1, 5, 99, api.Test{Field: api.InPort, Value: 1, Mask: 1}), nil, []int{1, 2, 4}},
	{"for EthType", rich(1, 5, 99, inner()), nil, []int{6, 7}},
	{"for a net", rich(1, 5, 99, inner(), src(10<<24, 255<<24)), []int{6}, []int{6, 7}},
	{"for half a net", rich(1, 5, 99, inner(), src(10<<24, 255<<24+1<<23)), nil, []int{7}},
	{"for another net", rich(1, 5, 99, inner(), src(11<<24, 255<<24)), nil, nil},
	{"of the other table, for all", rich(2, 5, 99), []int{10}, []int{8, 9, 10}},
	{"of the other table, for one port", rich(2, 6, 99, inPort(1)), []int{8}, []int{8, 9}},
	{"of a table without entries", rich(0, 5, 99), nil, nil},
	{"of a table without entries, for one port", rich(6, 5, 99, inPort(1)), nil, nil},
	{"that does nothing", api.Entry{Table: 1, Priority: 5, Tests: []api.Test{inPort(1)}}, []int{4}, []int{1, 2, 4}},
}

// meant is what a call is about: its places as marks.
func meant(strict bool, i int) map[int]int {
	l := changes[i].other
	if strict {
		l = changes[i].strict
	}
	marks := map[int]int{}
	for _, place := range l {
		marks[place]++
	}
	return marks
}

func checkTables(t *testing.T, f *Flows, want []api.Entry) {
	t.Helper()
	var tables [8][]api.Entry
	for _, x := range want {
		tables[x.Table] = append(tables[x.Table], x)
	}
	for table, l := range tables {
		checkList(t, f, table, l...)
	}
}

func TestModify(t *testing.T) { // P11.3: it leaves Table, Priority, Tests and place
	for i, c := range changes {
		for _, strict := range []bool{true, false} {
			f := flows(t, 16, some()...)
			checkTables(t, f, some())
			marks := meant(strict, i)
			var want []api.Entry
			for place, y := range some() {
				if marks[place] > 0 {
					y = doing(y, c.x)
				}
				want = append(want, y)
			}
			for range 2 { // a second time it is as behind the first one
				checkDone(t, f, call{"Modify", c.x, strict})
				checkTables(t, f, want)
			}
			if t.Failed() {
				t.Fatalf("%s, strict %v", c.name, strict)
			}
		}
	}
}

func TestDelete(t *testing.T) { // P11.3, P11.5
	for i, c := range changes {
		for _, strict := range []bool{true, false} {
			f := flows(t, 16, some()...)
			marks := meant(strict, i)
			var want []api.Entry
			for place, y := range some() {
				if marks[place] == 0 {
					want = append(want, y)
				}
			}
			for range 2 {
				checkDone(t, f, call{"Delete", c.x, strict})
				checkTables(t, f, want)
			}
			if t.Failed() {
				t.Fatalf("%s, strict %v", c.name, strict)
			}
		}
	}
}

func TestChangesOfNoEntries(t *testing.T) { // P11.3: there is no error if nothing is meant, and nothing is put
	f := flows(t, 1)
	for _, c := range changes {
		for _, strict := range []bool{true, false} {
			checkDone(t, f, call{"Modify", c.x, strict})
			checkDone(t, f, call{"Delete", c.x, strict})
			checkTables(t, f, nil)
		}
	}
}

func TestChangesOfFullTables(t *testing.T) { // P11.3: room is nothing to them; what is deleted leaves room
	f := flows(t, 3, entry(0, 5, 1, inPort(1)), entry(0, 5, 2, inPort(2)), entry(0, 4, 3))
	checkDone(t, f, call{"Modify", entry(0, 5, 9, inPort(2)), true})
	checkDone(t, f, call{"Modify", entry(0, 0, 8), false})
	checkList(t, f, 0, entry(0, 5, 8, inPort(1)), entry(0, 5, 8, inPort(2)), entry(0, 4, 8))
	checkRefused(t, f, call{"Add", entry(0, 3, 4), false}, api.ErrFull)
	checkDone(t, f, call{"Delete", entry(0, 3, 4), true})
	checkRefused(t, f, call{"Add", entry(0, 3, 4), false}, api.ErrFull)
	checkDone(t, f, call{"Delete", entry(0, 0, 0), false})
	checkList(t, f, 0)
	for i := range 3 {
		checkDone(t, f, call{"Add", entry(0, 3, 4, inPort(uint64(i))), true})
	}
	checkRefused(t, f, call{"Add", entry(0, 3, 4), false}, api.ErrFull)
}

func TestWhatIsDeletedMayBeAddedAgain(t *testing.T) { // P11.2, P11.3, P11.5
	f := flows(t, 1, entry(0, 5, 1))
	for mark := range uint64(100) {
		checkRefused(t, f, call{"Add", entry(0, 5, mark), true}, api.ErrClash)
		checkDone(t, f, call{"Delete", entry(0, 5, 77), mark%2 == 0})
		checkList(t, f, 0)
		checkDone(t, f, call{"Modify", entry(0, 5, 78), mark%2 == 0})
		checkList(t, f, 0)
		checkDone(t, f, call{"Add", entry(0, 5, mark), true})
		checkList(t, f, 0, entry(0, 5, mark))
	}
}

func TestEachPartIsModified(t *testing.T) { // P11.3: one by one, there and back
	for i, x := range []api.Entry{
		{Apply: actions(2)}, {Write: actions(2)}, {Clear: true}, {Meta: 5, MetaMask: 7}, {MetaMask: 7}, {Meter: 3}, {Goto: 4},
	} {
		for _, strict := range []bool{true, false} {
			nothing := api.Entry{Priority: 5, Tests: []api.Test{inPort(1)}}
			x.Priority, x.Tests = 5, nothing.Tests
			f := flows(t, 1, nothing)
			checkDone(t, f, call{"Modify", x, strict})
			checkList(t, f, 0, x)
			checkDone(t, f, call{"Modify", nothing, strict})
			checkList(t, f, 0, nothing)
			if t.Failed() {
				t.Fatalf("the part %d, strict %v", i, strict)
			}
		}
	}
}
