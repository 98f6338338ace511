package table

import (
	"testing"

	"drover/api"
	"drover/field"
)

// What the tests of this folder have in common.

const all64 = 1<<64 - 1

func inPort(n uint64) api.Test { return api.Test{Field: api.InPort, Value: n, Mask: 1<<32 - 1} }

func meta(value, mask uint64) api.Test { return api.Test{Field: api.Meta, Value: value, Mask: mask} }

func vlan(n uint64) api.Test { return api.Test{Field: api.Vlan, Value: 4096 + n, Mask: 1<<13 - 1} }

func inner() api.Test { return api.Test{Field: api.EthType, Value: 0x0800, Mask: 1<<16 - 1} }

func src(value, mask uint64) api.Test { return api.Test{Field: api.Src, Value: value, Mask: mask} }

func dst(value uint64) api.Test { return api.Test{Field: api.Dst, Value: value, Mask: 1<<32 - 1} }

func proto(n uint64) api.Test { return api.Test{Field: api.Proto, Value: n, Mask: 1<<8 - 1} }

func dport(n uint64) api.Test { return api.Test{Field: api.Dport, Value: n, Mask: 1<<16 - 1} }

func output(n uint64) api.Action { return api.Action{Kind: api.Output, Value: n} }

// entry has a mark, by which what it does is told from what others do.
func entry(table, priority int, mark uint64, tests ...api.Test) api.Entry {
	return api.Entry{Table: table, Priority: priority, Tests: tests, Meta: mark, MetaMask: all64}
}

// rich is an entry that has something everywhere.
func rich(table, priority int, mark uint64, tests ...api.Test) api.Entry {
	x := entry(table, priority, mark, tests...)
	x.Apply = []api.Action{{Kind: api.Push}, output(mark + 1), output(mark + 2)}
	x.Write = []api.Action{{Kind: api.ToGroup, Value: mark + 3}, output(mark + 4)}
	x.Clear = mark%2 == 0
	x.Meter = 1 + int(mark%16)
	x.Goto = 7
	return x
}

// doing is y, doing what x does.
func doing(y, x api.Entry) api.Entry {
	x, y = apart(x), apart(y)
	y.Apply, y.Write, y.Clear, y.Meta, y.MetaMask, y.Meter, y.Goto = x.Apply, x.Write, x.Clear, x.Meta, x.MetaMask, x.Meter, x.Goto
	return y
}

// flows has some entries already.
func flows(t *testing.T, room int, l ...api.Entry) *Flows {
	t.Helper()
	f, e := New(room)
	if f == nil || e != api.OK {
		t.Fatalf("New(%d): %v %d", room, f, int(e))
	}
	for _, x := range l {
		checkDone(t, f, call{"Add", x, false})
	}
	return f
}

// state is all that can be seen of the entries.
func state(f *Flows) string {
	var l [][]api.Entry
	for table := range 8 {
		l = append(l, f.List(table))
	}
	return text(l)
}

// call is an Add, a Modify or a Delete; how is the check of an Add, and of the others strict.
type call struct {
	name string
	x    api.Entry
	how  bool
}

// callsOf are all that can be made of an entry.
func callsOf(x api.Entry) []call {
	var l []call
	for _, name := range []string{"Add", "Modify", "Delete"} {
		l = append(l, call{name, x, false}, call{name, x, true})
	}
	return l
}

func (c call) of(f *Flows) api.Errno {
	switch c.name {
	case "Add":
		return f.Add(c.x, c.how)
	case "Modify":
		return f.Modify(c.x, c.how)
	}
	return f.Delete(c.x, c.how)
}

func (c call) ofModel(m *model) api.Errno {
	switch c.name {
	case "Add":
		return m.add(c.x, c.how)
	case "Modify":
		return m.modify(c.x, c.how)
	}
	return m.delete(c.x, c.how)
}

func checkDone(t *testing.T, f *Flows, c call) {
	t.Helper()
	if e := c.of(f); e != api.OK {
		t.Errorf("%s(%+v, %v): %d", c.name, c.x, c.how, int(e))
	}
}

// checkRefused also sees to it that nothing is changed.
func checkRefused(t *testing.T, f *Flows, c call, want api.Errno) {
	t.Helper()
	before := state(f)
	if e := c.of(f); e != want {
		t.Errorf("%s(%+v, %v): %d, not %d", c.name, c.x, c.how, int(e), int(want))
	}
	if now := state(f); now != before {
		t.Errorf("%s(%+v, %v): %s, not %s", c.name, c.x, c.how, now, before)
	}
}

func checkList(t *testing.T, f *Flows, table int, want ...api.Entry) {
	t.Helper()
	if l := f.List(table); text(l) != text(want) {
		t.Errorf("List(%d): %+v, not %+v", table, l, want)
	}
}

func checkLook(t *testing.T, f *Flows, table int, s field.Seen, want api.Entry) {
	t.Helper()
	if x, is := f.Look(table, s); text(x) != text(want) || !is {
		t.Errorf("Look(%d, %+v): %+v, %v, not %+v", table, s, x, is, want)
	}
}

func checkNothing(t *testing.T, f *Flows, table int, s field.Seen) {
	t.Helper()
	x, is := f.Look(table, s)
	if is || text(x) != text(api.Entry{}) || x.Tests != nil || x.Apply != nil || x.Write != nil {
		t.Errorf("Look(%d, %+v): %+v, %v", table, s, x, is)
	}
}
