package device

import (
	"slices"
	"testing"

	"drover/api"
	"drover/wire"
)

func dead(port int) wire.Message { return wire.Message{Kind: wire.PortStatus, Port: port} }

// P13.4: all of it, put out of order, each part in the document's order.
func TestState(t *testing.T) {
	d := device(t, 16, 8, 8)
	checkState(t, "a new one", d)
	if s := d.Port(16, false) + d.Port(2, false) + d.Port(9, false) + d.Port(10, false); s != portStatus(16, false)+portStatus(2, false)+portStatus(9, false)+portStatus(10, false) {
		t.Errorf("%x", s)
	}
	checkState(t, "dead ports", d, dead(2), dead(9), dead(10), dead(16))
	d.Port(9, true)
	entries := []api.Entry{
		{Table: 0, Priority: 65535, Tests: []api.Test{inPort(7)}, Apply: list(push)},
		{Table: 0, Priority: 9, Write: list(output(1))},
		{Table: 0, Priority: 8, Tests: []api.Test{inPort(2)}, Goto: 7},
		{Table: 0, Priority: 8, Tests: []api.Test{inPort(1)}, Clear: true},
		{Table: 1, Priority: 0, Meta: 1, MetaMask: 1<<64 - 1},
		{Table: 6, Priority: 3, Meter: 11, Apply: list(to(30)), Write: list(to(4))},
		{Table: 7, Priority: 9},
	}
	for _, i := range []int{6, 2, 3, 1, 4, 0} {
		checkTaken(t, d, checked(flowMod(0, entries[i])))
	}
	checkTaken(t, d, groupMod(0, all(30)), meterMod(0, 11, 0, 3), groupMod(0, all(4)), groupMod(0, all(65535)), meterMod(0, 2, 4, 5), meterMod(0, 10, 6, 7), groupMod(0, all(100, to(65535), to(30))), meterMod(0, 16, most, most), meterMod(0, 1, 0, 0))
	checkTaken(t, d, flowMod(0, entries[5]))
	want := []wire.Message{
		meterMod(0, 1, 0, 0), meterMod(0, 2, 4, 5), meterMod(0, 10, 6, 7), meterMod(0, 11, 0, 3), meterMod(0, 16, most, most),
		groupMod(0, all(4)), groupMod(0, all(30)), groupMod(0, all(100, to(65535), to(30))), groupMod(0, all(65535)),
	}
	want = append(append(want, flowMods(entries...)...), dead(2), dead(10), dead(16))
	for range 3 {
		checkState(t, "all of it", d, want...)
	}
	// A part of a message is no part of it.
	d.Handle(say(t, meterMod(0, 3, 1, 1))[:31])
	checkState(t, "with a message that is not whole", d, want...)
	d.Handle(say(t, meterMod(0, 3, 1, 1))[31:])
	checkState(t, "with it", d, slices.Insert(want, 2, meterMod(0, 3, 1, 1))...)
}

// P13.4: its bytes, written out; the Xid, the Command and Check of what made it don't count.
func TestStateBytes(t *testing.T) {
	d := device(t, 4, 2, 2)
	checkTaken(t, d, meterMod(0, 3, 9, 9), meterMod(1, 3, 258, 772), checked(flowMod(0, write(6))), flowMod(2, write(6, output(5))), groupMod(0, all(7)), groupMod(1, api.Group{ID: 7, Kind: api.Select}))
	d.Port(4, false)
	want := head(29, 32, 0) + "\x00\x00\x00\x05\x00\x00\x00\x03\x00\x01\x00\x10\x00\x00\x01\x02\x00\x00\x03\x04" + zeros(4) +
		head(15, 16, 0) + "\x00\x00\x01\x00\x00\x00\x00\x07" +
		head(14, 80, 0) + zeros(22) + "\x00\x06" + "\xff\xff\xff\xff\xff\xff\xff\xff\xff\xff\xff\xff" + zeros(4) + "\x00\x01\x00\x04" + zeros(4) +
		"\x00\x03\x00\x18" + zeros(4) + "\x00\x00\x00\x10\x00\x00\x00\x05\xff\xff" + zeros(6) +
		portStatus(4, false)
	if got := d.State(); got != want {
		t.Errorf("%x, not %x", got, want)
	}
}

// P13.4: what State tells makes another switch the same, but for its dead ports.
func TestStateMakes(t *testing.T) {
	d := device(t, 4, 16, 4, append([]wire.Message{groupMod(0, all(1)), meterMod(0, 5, 1, 2), groupMod(0, all(2, to(1))), flowMod(0, api.Entry{Table: 3, Meter: 5})}, flowMods(several()...)...)...)
	again := device(t, 4, 16, 4)
	checkHandle(t, "the State of another one", again, d.State(), nil, nil)
	if inside(again) != inside(d) {
		t.Errorf("%s, not %s", inside(again), inside(d))
	}
	d.Port(2, false)
	d.Port(3, false)
	again = device(t, 4, 16, 4)
	checkHandle(t, "with dead ports", again, d.State(), []string{refused(0, 1, 1, portStatus(2, false)), refused(0, 1, 1, portStatus(3, false))}, nil)
}
