package table

import (
	"math"
	"slices"
	"testing"

	"drover/api"
)

func actions(n int) []api.Action {
	var l []api.Action
	for i := range n {
		l = append(l, output(uint64(i+1)))
	}
	return l
}

// nineTests is one of each field.
func nineTests() []api.Test {
	return []api.Test{inPort(1<<32 - 1), meta(all64, all64), vlan(4095), inner(), src(1<<32-1, 1<<32-1), dst(0), proto(17),
		{Field: api.Sport, Value: 1, Mask: 1}, dport(65535)}
}

// rightEntries stand at the limits.
func rightEntries() map[string]api.Entry {
	return map[string]api.Entry{
		"nothing":                   {},
		"Table 7":                   {Table: 7},
		"Priority 65535":            {Priority: 65535},
		"Apply of 32":               {Apply: actions(32)},
		"Write of 32":               {Write: actions(32)},
		"both of 32":                {Apply: actions(32), Write: actions(32)},
		"lists without elements":    {Tests: []api.Test{}, Apply: []api.Action{}, Write: []api.Action{}},
		"Output 4294967295":         {Apply: []api.Action{output(4294967295)}},
		"Set of Vlan 4096 and 8191": {Write: []api.Action{{Kind: api.Set, Field: api.Vlan, Value: 4096}, {Kind: api.Set, Field: api.Vlan, Value: 8191}}},
		"Meter 1":                   {Meter: 1},
		"Meter 16":                  {Meter: 16},
		"Meta as MetaMask":          {Meta: all64, MetaMask: all64},
		"MetaMask alone":            {MetaMask: 1 << 63},
		"Goto 1 of table 0":         {Goto: 1},
		"Goto 7 of table 0":         {Goto: 7},
		"Goto 7 of table 6":         {Table: 6, Goto: 7},
		"Clear":                     {Clear: true},
		"a test of each field":      {Tests: nineTests()},
		"all of it":                 {Table: 6, Priority: 65535, Tests: nineTests(), Apply: actions(32), Write: actions(32), Clear: true, Meta: all64, MetaMask: all64, Meter: 16, Goto: 7},
	}
}

func TestRightEntries(t *testing.T) { // P11.2, P11.3, Words
	for name, x := range rightEntries() {
		for _, c := range callsOf(x) {
			f := flows(t, 1)
			before := text(x)
			checkDone(t, f, c)
			if c.name == "Add" {
				checkList(t, f, x.Table, x)
				checkDone(t, f, call{"Modify", x, true})
				checkList(t, f, x.Table, x)
				checkDone(t, f, call{"Delete", x, true})
			}
			for table := range 8 {
				checkList(t, f, table)
			}
			if text(x) != before {
				t.Errorf("%s: %+v, not %s", name, x, before)
			}
		}
	}
}

// fault makes an entry wrong, so that what is wrong with it is e.
type fault struct {
	name string
	e    api.Errno
	do   func(x *api.Entry)
}

func tests(l ...api.Test) func(*api.Entry) { return func(x *api.Entry) { x.Tests = l } }

// faults are in the order in which they are named; those of one part are one behind the other.
func faults() [][]fault {
	table := func(n int) func(*api.Entry) { return func(x *api.Entry) { x.Table = n } }
	priority := func(n int) func(*api.Entry) { return func(x *api.Entry) { x.Priority = n } }
	apply := func(l ...api.Action) func(*api.Entry) { return func(x *api.Entry) { x.Apply = l } }
	write := func(l ...api.Action) func(*api.Entry) { return func(x *api.Entry) { x.Write = l } }
	meter := func(n int) func(*api.Entry) { return func(x *api.Entry) { x.Meter = n } }
	next := func(n int) func(*api.Entry) { return func(x *api.Entry) { x.Goto = n } }
	return [][]fault{
		{
			{"Table -1", api.ErrTable, table(-1)}, {"Table 8", api.ErrTable, table(8)},
			{"the least Table", api.ErrTable, table(math.MinInt)}, {"the greatest Table", api.ErrTable, table(math.MaxInt)},
		},
		{
			{"an action of Apply", api.ErrAct, apply(output(1), output(0))}, {"Output 4294967296", api.ErrAct, apply(output(4294967296))},
			{"Apply of 33", api.ErrBig, apply(actions(33)...)}, {"Apply of 33 that are none", api.ErrAct, apply(make([]api.Action, 33)...)},
		},
		{
			{"an action of Write", api.ErrAct, write(output(1), api.Action{Kind: api.Pop, Value: 1})},
			{"Set of Vlan 4095", api.ErrAct, write(api.Action{Kind: api.Set, Field: api.Vlan, Value: 4095})},
			{"Write of 33", api.ErrBig, write(actions(33)...)},
		},
		{{"Meter -1", api.ErrMeter, meter(-1)}, {"Meter 17", api.ErrMeter, meter(17)}},
		{
			{"Meta beside MetaMask", api.ErrInstr, func(x *api.Entry) { x.Meta, x.MetaMask = 6, 5 }},
			{"Goto its Table", api.ErrInstr, func(x *api.Entry) { x.Table, x.Goto = 3, 3 }},
			{"Goto -1", api.ErrInstr, next(-1)}, {"Goto 8", api.ErrInstr, next(8)},
		},
		{
			{"no field", api.ErrField, tests(api.Test{})}, {"the field 10", api.ErrField, tests(inPort(1), api.Test{Field: 10, Value: 1, Mask: 1})},
			{"two of one field", api.ErrMatch, tests(inPort(1), inPort(1))}, {"fields that fall", api.ErrMatch, tests(meta(1, 1), inPort(1))},
			{"Mask 0", api.ErrMatch, tests(meta(0, 0))}, {"Mask of 33 bits", api.ErrMatch, tests(api.Test{Field: api.InPort, Mask: 1 << 32})},
			{"Value beside Mask", api.ErrMatch, tests(meta(3, 1))}, {"Src alone", api.ErrMatch, tests(src(1, 1))},
			{"Proto of another EthType", api.ErrMatch, tests(api.Test{Field: api.EthType, Value: 0x0801, Mask: 0xffff}, proto(6))},
			{"Dport of another Proto", api.ErrMatch, tests(inner(), proto(1), dport(1))},
			{"no field behind a wrong test", api.ErrMatch, tests(meta(3, 1), api.Test{})},
		},
		{
			{"Priority -1", api.ErrArg, priority(-1)}, {"Priority 65536", api.ErrArg, priority(65536)},
			{"the least Priority", api.ErrArg, priority(math.MinInt)}, {"the greatest Priority", api.ErrArg, priority(math.MaxInt)},
			{"Priority 2^32", api.ErrArg, priority(1 << 32)},
		},
	}
}

// checkWrong has all calls of an entry that is wrong, beside one that it would meet, and one that it would be in the place of.
func checkWrong(t *testing.T, name string, want api.Errno, x api.Entry) {
	t.Helper()
	f := flows(t, 2, entry(0, 5, 1), entry(0, 6, 2, inPort(3)), entry(3, 5, 3))
	for _, c := range callsOf(x) {
		before := text(x)
		checkRefused(t, f, c, want)
		if t.Failed() {
			t.Fatalf("%s, of an entry with %s", c.name, name)
		}
		if text(x) != before {
			t.Errorf("%s: %+v, not %s", name, x, before)
		}
	}
}

func TestWrongEntries(t *testing.T) { // P11.2, P11.3, Words: just beyond each limit
	for _, part := range faults() {
		for _, one := range part {
			x := entry(0, 5, 9)
			one.do(&x)
			checkWrong(t, one.name, one.e, x)
		}
	}
}

func TestTwoThingsWrongAtOnce(t *testing.T) { // Words, R1: the one that is named first is answered
	all := faults()
	for i, part := range all {
		for _, first := range part {
			for _, second := range slices.Concat(all[i+1:]...) {
				x := entry(0, 5, 9)
				second.do(&x)
				first.do(&x)
				checkWrong(t, first.name+" and "+second.name, first.e, x)
			}
		}
	}
}

func TestAllThingsWrongAtOnce(t *testing.T) { // Words, R1: what is named first is mended, then what is named next
	all := faults()
	for i, part := range all {
		x := entry(0, 5, 9)
		for _, later := range slices.Backward(all[i:]) {
			later[0].do(&x)
		}
		checkWrong(t, "all from "+part[0].name+" on", part[0].e, x)
	}
}
