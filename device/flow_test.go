package device

import (
	"fmt"
	"testing"

	"drover/api"
	"drover/wire"
)

// checked is a FlowMod with Check.
func checked(m wire.Message) wire.Message {
	m.Check = true
	return m
}

// metered is an entry with a meter.
func metered(id int, x api.Entry) api.Entry {
	x.Meter = id
	return x
}

func apply(priority int, l ...api.Action) api.Entry {
	return api.Entry{Priority: priority, Apply: l}
}

// P13.2: what an entry leads to must be there, of Commands 0 to 2.
func TestFlowModMissing(t *testing.T) {
	here := []wire.Message{meterMod(0, 2, 1, 1), groupMod(0, all(5)), groupMod(0, all(6)), flowMod(0, write(1))}
	for _, c := range []struct {
		x          api.Entry
		kind, code int
	}{
		{metered(1, write(1)), 12, 3}, {metered(3, write(1)), 12, 3}, {metered(16, write(1)), 12, 3},
		{write(1, to(1)), 2, 9}, {apply(1, to(1)), 2, 9}, {write(1, to(7)), 2, 9}, {write(1, to(65536+5)), 2, 9}, {apply(1, to(1<<32-1)), 2, 9},
		{write(1, to(5), to(7)), 2, 9}, {apply(1, to(5), output(1), to(6), to(4)), 2, 9},
		{api.Entry{Priority: 1, Apply: list(to(5)), Write: list(to(4))}, 2, 9}, {api.Entry{Priority: 1, Apply: list(to(4)), Write: list(to(5))}, 2, 9},
		{metered(2, write(1, to(7))), 2, 9},
		{metered(1, write(1, to(7))), 12, 3}, {metered(1, apply(1, to(7))), 12, 3}, // the one that is named first
		{metered(1, write(1, to(5))), 12, 3},
		{api.Entry{Table: 7, Priority: 9, Apply: list(to(7)), Tests: []api.Test{inPort(1)}}, 2, 9},
	} {
		d := device(t, 4, 1, 4, here...)
		for command := range 3 {
			checkRefused(t, d, flowMod(command, c.x), c.kind, c.code)
			checkRefused(t, d, checked(flowMod(command, c.x)), c.kind, c.code)
		}
		// To delete, nothing of it must be there.
		checkTaken(t, d, flowMod(4, c.x), flowMod(3, c.x))
	}
}

// P13.2: what is there, or is no group, is no reason to refuse.
func TestFlowModThere(t *testing.T) {
	for _, x := range []api.Entry{
		metered(2, write(1)), write(1, to(5)), write(1, to(5), to(6)), apply(1, to(6), to(5), to(6)), write(1, output(7), set(api.Src, 7)), apply(1, output(7)),
		metered(2, api.Entry{Priority: 1, Apply: list(to(5)), Write: list(to(6), push)}), {Priority: 1, Goto: 7, Meta: 7, MetaMask: 7},
	} {
		for command := range 5 {
			d := device(t, 4, 1, 4, meterMod(0, 2, 1, 1), groupMod(0, all(5)), groupMod(0, all(6)))
			checkTaken(t, d, flowMod(command, x))
			want := []wire.Message{meterMod(0, 2, 1, 1), groupMod(0, all(5)), groupMod(0, all(6))}
			if command == 0 {
				want = append(want, flowMod(0, x))
			}
			checkState(t, fmt.Sprintf("Command %d of %+v", command, x), d, want...)
		}
	}
}

// P13.2: Command 0 adds, with Check or not.
func TestFlowModAdd(t *testing.T) {
	d := device(t, 4, 3, 1)
	one, both := write(5, output(1)), write(5, output(2))
	one.Tests = []api.Test{inPort(1)}
	checkTaken(t, d, checked(flowMod(0, one)))
	checkRefused(t, d, checked(flowMod(0, both)), 5, 3)
	checkRefused(t, d, checked(flowMod(0, one)), 5, 3)
	checkState(t, "Check", d, flowMod(0, one))
	checkTaken(t, d, flowMod(0, both))
	checkState(t, "no Check", d, flowMod(0, one), flowMod(0, both))
	one.Write = list(output(3))
	checkTaken(t, d, flowMod(0, one))
	checkState(t, "in its place", d, flowMod(0, one), flowMod(0, both))
	first := write(6)
	checkTaken(t, d, checked(flowMod(0, first)))
	checkState(t, "of another Priority", d, flowMod(0, first), flowMod(0, one), flowMod(0, both))
	checkRefused(t, d, flowMod(0, write(7)), 5, 1)
	checkRefused(t, d, checked(flowMod(0, write(7))), 5, 1)
	checkRefused(t, d, checked(flowMod(0, write(6, output(2)))), 5, 3)
	both.Write = nil
	checkTaken(t, d, flowMod(0, both))
	checkTaken(t, d, flowMod(0, api.Entry{Table: 1, Priority: 5}))
	checkState(t, "of a full table", d, flowMod(0, first), flowMod(0, one), flowMod(0, both), flowMod(0, api.Entry{Table: 1, Priority: 5}))
}

// flowsOf are entries of Priority 5 and 4, for all and for those of port 1, and one of another table.
func flowsOf() []api.Entry {
	l := []api.Entry{write(5, output(1)), write(5, output(2)), write(4, output(3)), write(4, output(4)), write(5, output(5))}
	l[0].Tests, l[3].Tests, l[4].Table = []api.Test{inPort(1)}, []api.Test{inPort(1)}, 2
	return l
}

func flowMods(l ...api.Entry) []wire.Message {
	var to []wire.Message
	for _, x := range l {
		to = append(to, flowMod(0, x))
	}
	return to
}

// P13.2: Command 1 modifies all that are covered, 2 strictly the one.
func TestFlowModModify(t *testing.T) {
	do := api.Entry{Apply: list(push), Write: list(output(9)), Clear: true, Meta: 1, MetaMask: 3, Meter: 1, Goto: 3}
	for _, c := range []struct {
		command, priority int
		tests             []api.Test
		meant             []int
	}{
		{1, 5, nil, []int{0, 1, 2, 3}}, {1, 9, nil, []int{0, 1, 2, 3}}, {1, 5, []api.Test{inPort(1)}, []int{0, 3}}, {1, 5, []api.Test{inPort(2)}, nil},
		{2, 5, nil, []int{1}}, {2, 4, nil, []int{2}}, {2, 5, []api.Test{inPort(1)}, []int{0}}, {2, 4, []api.Test{inPort(1)}, []int{3}}, {2, 9, nil, nil}, {2, 5, []api.Test{inPort(2)}, nil},
	} {
		for _, check := range []bool{false, true} { // which is for Add alone
			d := device(t, 4, 4, 1, append(flowMods(flowsOf()...), meterMod(0, 1, 1, 1))...)
			m := flowMod(c.command, do)
			m.Check, m.Entry.Priority, m.Entry.Tests = check, c.priority, c.tests
			checkTaken(t, d, m)
			want := flowsOf()
			for _, i := range c.meant {
				x := do
				x.Priority, x.Tests = want[i].Priority, want[i].Tests
				want[i] = x
			}
			checkState(t, fmt.Sprintf("%+v", c), d, append([]wire.Message{meterMod(0, 1, 1, 1)}, flowMods(want...)...)...)
		}
	}
}

// P13.2: Command 3 deletes all that are covered, 4 strictly the one.
func TestFlowModDelete(t *testing.T) {
	for _, c := range []struct {
		command, priority int
		tests             []api.Test
		stay              []int
	}{
		{3, 5, nil, []int{4}}, {3, 9, nil, []int{4}}, {3, 5, []api.Test{inPort(1)}, []int{1, 2, 4}}, {3, 5, []api.Test{inPort(2)}, []int{0, 1, 2, 3, 4}},
		{4, 5, nil, []int{0, 2, 3, 4}}, {4, 4, nil, []int{0, 1, 3, 4}}, {4, 5, []api.Test{inPort(1)}, []int{1, 2, 3, 4}}, {4, 4, []api.Test{inPort(1)}, []int{0, 1, 2, 4}}, {4, 9, nil, []int{0, 1, 2, 3, 4}},
	} {
		for _, check := range []bool{false, true} {
			d := device(t, 4, 4, 1, flowMods(flowsOf()...)...)
			m := flowMod(c.command, api.Entry{Priority: c.priority, Tests: c.tests, Write: list(to(60)), Meter: 9, Goto: 7})
			m.Check = check
			checkTaken(t, d, m)
			var want []api.Entry
			for _, i := range c.stay {
				want = append(want, flowsOf()[i])
			}
			checkState(t, fmt.Sprintf("%+v", c), d, flowMods(want...)...)
		}
	}
}

// P13.2: of a table that is full Modify and Delete are not refused.
func TestFlowModFull(t *testing.T) {
	d := device(t, 4, 2, 1, flowMod(0, write(1)), flowMod(0, write(2)))
	checkRefused(t, d, flowMod(0, write(3)), 5, 1)
	checkTaken(t, d, flowMod(1, write(3, output(4))), flowMod(2, write(3, output(5))), flowMod(2, write(2, output(6))))
	checkState(t, "modified", d, flowMod(0, write(2, output(6))), flowMod(0, write(1, output(4))))
	checkTaken(t, d, flowMod(4, write(1)), flowMod(0, write(3)))
	checkState(t, "there is room again", d, flowMod(0, write(3)), flowMod(0, write(2, output(6))))
}
