package pipe

import (
	"testing"

	"drover/api"
	"drover/field"
	"drover/group"
	"drover/meter"
	"drover/table"
)

const all64 = 1<<64 - 1

func meta(v, mask uint64) api.Test { return api.Test{Field: api.Meta, Value: v, Mask: mask} }

func vlan(v uint64) api.Test { return api.Test{Field: api.Vlan, Value: v, Mask: 8191} }

func inPort(n uint64) api.Test { return api.Test{Field: api.InPort, Value: n, Mask: 1<<32 - 1} }

func TestExample(t *testing.T) { // the chapter's
	x := withFlows(t, api.Entry{Write: list(output(2))})
	checkRun(t, "in by port 1", x, plain(1), outs(plain(1), 2)...)
	checkRun(t, "in by port 2", x, plain(2))
}

func TestRunWithoutAnEntry(t *testing.T) { // P12.2
	checkRun(t, "no entry", withFlows(t), plain(1))
	checkRun(t, "in another table", withFlows(t, api.Entry{Table: 1, Write: list(output(2))}), plain(1))
	x := withFlows(t, api.Entry{Tests: []api.Test{inPort(2)}, Apply: list(output(3)), Write: list(output(2))})
	checkRun(t, "for other packets", x, plain(1))
	checkRun(t, "for it", x, plain(2), outs(plain(2), 3)...)
}

func TestRunOfAnEntryThatDoesNothing(t *testing.T) { // P12.2: it is the one that counts
	x := withFlows(t, api.Entry{Priority: 1, Apply: list(output(3)), Write: list(output(2))}, api.Entry{Priority: 2, Tests: []api.Test{inPort(1)}})
	checkRun(t, "nothing", x, plain(1))
	checkRun(t, "something", x, plain(5), outs(plain(5), 3, 2)...)
}

func TestApplyIsAheadOfWrite(t *testing.T) { // P12.2
	s := inner(1)
	x := withFlows(t, api.Entry{Apply: list(output(2), push, output(3)), Write: list(output(5), set(api.Vlan, 4100))})
	checkRun(t, "one entry", x, s, Out{2, s.P}, Out{3, tagged(s, 4096).P}, Out{5, tagged(s, 4100).P})
	// An action set is done behind all tables, however early it is written.
	x = withFlows(t, api.Entry{Write: list(push, output(5)), Goto: 1}, api.Entry{Table: 1, Apply: list(output(2)), Goto: 2}, api.Entry{Table: 2, Apply: list(output(3), set(api.Dport, 9))})
	changed := tagged(s, 4096)
	changed.P.Dport = 9
	checkRun(t, "three entries", x, s, Out{2, s.P}, Out{3, s.P}, Out{5, changed.P})
}

func TestRunOverTables(t *testing.T) { // P12.2: from table 0 on, by Goto, with the packet as it is then
	s := plain(1)
	out := func(table, to int, n uint64, tests ...api.Test) api.Entry {
		return api.Entry{Table: table, Tests: tests, Apply: list(output(n)), Goto: to}
	}
	for _, c := range []struct {
		what  string
		l     []api.Entry
		ports []int
	}{
		{"two", []api.Entry{out(0, 1, 2), out(1, 0, 3)}, []int{2, 3}},
		{"those between are left out", []api.Entry{out(0, 2, 2), out(1, 2, 5), out(2, 0, 3)}, []int{2, 3}},
		{"one that is not gone to", []api.Entry{out(0, 0, 2), out(1, 0, 3)}, []int{2}},
		{"to the last one", []api.Entry{out(0, 7, 2), out(7, 0, 3)}, []int{2, 3}},
		{"all", []api.Entry{out(0, 1, 2), out(1, 2, 3), out(2, 3, 5), out(3, 4, 2), out(4, 5, 3), out(5, 6, 5), out(6, 7, 2), out(7, 0, 3)}, []int{2, 3, 5, 2, 3, 5, 2, 3}},
		{"to one without an entry", []api.Entry{out(0, 3, 2), out(4, 0, 3)}, []int{2}},
		{"to the last one, without an entry", []api.Entry{out(0, 7, 2)}, []int{2}},
		{"InPort stays", []api.Entry{out(0, 1, 2), out(1, 2, 5, inPort(1)), out(2, 0, 3, inPort(2))}, []int{2, 5}},
	} {
		checkRun(t, c.what, withFlows(t, c.l...), s, outs(s, c.ports...)...)
	}
	x := withFlows(t,
		api.Entry{Apply: list(push, set(api.Vlan, 4100), output(2)), Goto: 1},
		api.Entry{Table: 1, Priority: 1, Write: list(output(5))},
		api.Entry{Table: 1, Priority: 2, Tests: []api.Test{vlan(4100)}, Apply: list(pop), Goto: 2},
		api.Entry{Table: 2, Tests: []api.Test{vlan(0)}, Write: list(output(3))})
	checkRun(t, "what was applied is matched", x, s, Out{2, tagged(s, 4100).P}, Out{3, s.P})
	x = withFlows(t,
		api.Entry{Write: list(push, output(2)), Goto: 1},
		api.Entry{Table: 1, Tests: []api.Test{vlan(0)}, Write: list(output(3))})
	checkRun(t, "what is written is not done yet", x, s, Out{3, tagged(s, 4096).P})
	x = withFlows(t, api.Entry{Apply: list(to(1)), Goto: 1}, api.Entry{Table: 1, Tests: []api.Test{vlan(0)}, Write: list(output(3))})
	x.Groups = groups(t, groupOf(1, api.All, bucket(push, output(2))))
	checkRun(t, "behind a group it is as it was", x, s, Out{2, tagged(s, 4096).P}, Out{3, s.P})
}

func TestActionSet(t *testing.T) { // P12.2: Clear, and Write merged over tables
	s := plain(1)
	x := withGroups(t, groupOf(1, api.All, bucket(output(2)), bucket(output(3))))
	for _, c := range []struct {
		what string
		l    []api.Entry
		want []Out
	}{
		{"the last Output", []api.Entry{{Write: list(output(2)), Goto: 1}, {Table: 1, Write: list(output(3))}}, outs(s, 3)},
		{"the only Output", []api.Entry{{Write: list(output(2)), Goto: 1}, {Table: 1}}, outs(s, 2)},
		{"Set ahead of Push", []api.Entry{{Write: list(set(api.Vlan, 4100), output(2)), Goto: 1}, {Table: 1, Write: list(push)}}, outs(tagged(s, 4100), 2)},
		{"the last Set", []api.Entry{{Write: list(push, set(api.Vlan, 4100), output(2)), Goto: 1}, {Table: 1, Write: list(set(api.Vlan, 4101))}}, outs(tagged(s, 4101), 2)},
		{"ToGroup ahead of Output", []api.Entry{{Write: list(to(1)), Goto: 1}, {Table: 1, Write: list(push, output(5))}}, outs(tagged(s, 4096), 2, 3)},
		{"three", []api.Entry{{Write: list(push), Goto: 1}, {Table: 1, Write: list(set(api.Vlan, 4100)), Goto: 2}, {Table: 2, Write: list(output(2))}}, outs(tagged(s, 4100), 2)},
		{"Clear", []api.Entry{{Write: list(push, to(1)), Goto: 1}, {Table: 1, Clear: true}}, nil},
		{"Clear ahead of Write", []api.Entry{{Write: list(push, to(1)), Goto: 1}, {Table: 1, Clear: true, Write: list(output(5))}}, outs(s, 5)},
		{"Clear at first", []api.Entry{{Clear: true, Write: list(push, output(2))}}, outs(tagged(s, 4096), 2)},
		{"Clear, and more behind it", []api.Entry{{Write: list(push), Goto: 1}, {Table: 1, Clear: true, Write: list(output(2)), Goto: 2}, {Table: 2, Write: list(to(1))}}, outs(s, 2, 3)},
		{"Clear leaves what was applied", []api.Entry{{Apply: list(output(2), push), Goto: 1}, {Table: 1, Clear: true, Apply: list(output(3)), Write: list(output(5))}}, append(outs(s, 2), outs(tagged(s, 4096), 3, 5)...)},
		{"without an entry", []api.Entry{{Apply: list(output(2)), Write: list(output(3)), Goto: 1}}, outs(s, 2)},
		{"without an Output", []api.Entry{{Write: list(push, set(api.Vlan, 4100))}}, nil},
	} {
		x.Flows = flows(t, c.l...)
		checkRun(t, c.what, x, s, c.want...)
	}
}

func TestMetaIsNoneAtFirst(t *testing.T) { // P12.2: whatever the packet has
	x := withFlows(t,
		api.Entry{Priority: 2, Tests: []api.Test{meta(9, all64)}, Write: list(output(2))},
		api.Entry{Priority: 1, Tests: []api.Test{meta(0, all64)}, Goto: 1},
		api.Entry{Table: 1, Priority: 2, Tests: []api.Test{meta(9, all64)}, Write: list(output(3))},
		api.Entry{Table: 1, Priority: 1, Tests: []api.Test{meta(0, all64)}, Write: list(output(5))})
	for _, m := range []uint64{0, 9, 1 << 63, all64} {
		s := plain(1)
		s.Meta = m
		checkRun(t, "Meta", x, s, outs(s, 5)...)
	}
}

func TestMetaUnderMask(t *testing.T) { // P12.2: matched in the next table, and the one behind it
	for _, c := range []struct{ metaA, maskA, metaB, maskB, first, then uint64 }{
		{0, 0, 0, 0, 0, 0},
		{5, 7, 0, 0, 5, 5},
		{10, 15, 4, 6, 10, 12},
		{15, 15, 0, 6, 15, 9},
		{0, 15, 6, 6, 0, 6},
		{1 << 63, all64, 1, 1, 1 << 63, 1<<63 + 1},
		{all64, all64, 0, 1 << 63, all64, 1<<63 - 1},
		{all64, all64, 0, all64, all64, 0},
	} {
		x := withFlows(t,
			api.Entry{Meta: c.metaA, MetaMask: c.maskA, Goto: 1},
			api.Entry{Table: 1, Tests: []api.Test{meta(c.first, all64)}, Apply: list(output(2)), Meta: c.metaB, MetaMask: c.maskB, Goto: 2},
			api.Entry{Table: 2, Tests: []api.Test{meta(c.then, all64)}, Apply: list(output(3))})
		s := plain(1)
		s.Meta = 0xff
		checkRun(t, text(c), x, s, outs(s, 2, 3)...)
		checkRun(t, "again", x, s, outs(s, 2, 3)...)
	}
}

func TestNilParts(t *testing.T) { // R2
	l := []api.Entry{{Meter: 1, Apply: list(to(1), output(2)), Write: list(to(1)), Goto: 1}, {Table: 1, Meter: 16, Clear: true, Write: list(output(3))}}
	s := plain(1)
	whole := withFlows(t, l...)
	whole.Groups = groups(t, groupOf(1, api.All, bucket(output(5))))
	whole.Meters = append(whole.Meters, nil, newMeter(t, 100))
	checkRun(t, "all of it", whole, s, outs(s, 5, 2, 3)...)
	for what, c := range map[string]struct {
		take     func(*Parts)
		run, act []int
	}{
		"Flows":  {func(x *Parts) { x.Flows = nil }, nil, []int{5, 2}},
		"Groups": {func(x *Parts) { x.Groups = nil }, []int{2, 3}, []int{2}},
		"Meters": {func(x *Parts) { x.Meters = nil }, []int{5, 2, 3}, []int{5, 2}},
		"Live":   {func(x *Parts) { x.Live = nil }, nil, nil},
		"all":    {func(x *Parts) { *x = Parts{} }, nil, nil},
	} {
		x := whole
		c.take(&x)
		checkRun(t, "nil "+what, x, s, outs(s, c.run...)...)
		checkAct(t, "nil "+what, x, s, list(to(1), output(2), push), tagged(s, 4096), outs(s, c.act...)...)
	}
	if l, u := Act(Parts{}, field.Seen{}, nil, 0); len(l) != 0 || u != (field.Seen{}) {
		t.Error(l, u)
	}
}

func TestPartsThatNewDidNotMake(t *testing.T) { // R1: they have nothing in them, and a meter lets nothing through
	s := plain(1)
	x := Parts{Flows: &table.Flows{}, Groups: &group.Table{}, Meters: []*meter.Bucket{{}, {}}, Live: alive(3)}
	checkRun(t, "no entries", x, s)
	checkAct(t, "no groups", x, s, list(to(1), output(2)), s, outs(s, 2)...)
	x.Flows = flows(t, api.Entry{Apply: list(output(2)), Goto: 1}, api.Entry{Table: 1, Meter: 1, Apply: list(output(3))})
	checkRun(t, "a meter without bytes", x, s, outs(s, 2)...)
}
