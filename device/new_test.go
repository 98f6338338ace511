package device

import (
	"testing"

	"drover/api"
	"drover/wire"
)

// P13.1
func TestNew(t *testing.T) {
	for _, c := range []struct {
		ports, flows, groups int
		want                 api.Errno
	}{
		{1, 1, 1, api.OK}, {16, 256, 64, api.OK}, {4, 10, 3, api.OK},
		{0, 1, 1, api.ErrArg}, {17, 1, 1, api.ErrArg}, {-1, 1, 1, api.ErrArg}, {1 << 62, 1, 1, api.ErrArg}, {-1 << 63, 1, 1, api.ErrArg},
		{1, 0, 1, api.ErrArg}, {1, 257, 1, api.ErrArg}, {1, -1, 1, api.ErrArg}, {1, 1 << 62, 1, api.ErrArg},
		{1, 1, 0, api.ErrArg}, {1, 1, 65, api.ErrArg}, {1, 1, -1, api.ErrArg}, {1, 1, 1 << 62, api.ErrArg},
		// All of these errors are one number, whichever is told first.
		{0, 0, 1, api.ErrArg}, {0, 1, 0, api.ErrArg}, {1, 0, 0, api.ErrArg}, {17, 257, 65, api.ErrArg},
	} {
		d, e := New(c.ports, c.flows, c.groups)
		if e != c.want || (d == nil) != (e != api.OK) {
			t.Errorf("%+v: %v, %d", c, d, int(e))
		}
	}
}

// P13.1: as many ports as are asked for, all alive, each with a number from 1 on.
func TestNewPorts(t *testing.T) {
	for ports := 1; ports <= 16; ports++ {
		d := device(t, ports, 1, 1)
		for port := -1; port <= 20; port++ {
			is := port >= 1 && port <= ports
			if s := d.Port(port, true); s != "" {
				t.Errorf("port %d of %d was not alive: %x", port, ports, s)
			}
			if s := d.Port(port, false); (s != "") != is {
				t.Errorf("port %d of %d: %x", port, ports, s)
			}
		}
	}
}

// P13.1: without entries, groups and meters, and with as much room as is asked for.
func TestNewRoom(t *testing.T) {
	for _, room := range []int{1, 2, 3, 64} {
		d := device(t, 1, room, 65-room)
		checkState(t, "a new one", d)
		for i := range room {
			checkTaken(t, d, flowMod(0, write(i)), flowMod(0, api.Entry{Table: 7, Priority: i}))
		}
		checkRefused(t, d, flowMod(0, write(room)), 5, 1)
		checkRefused(t, d, flowMod(0, api.Entry{Table: 7, Priority: room}), 5, 1)
		for i := range 65 - room {
			checkTaken(t, d, groupMod(0, all(i+1)))
		}
		checkRefused(t, d, groupMod(0, all(100)), 6, 3)
		for i := range 16 {
			checkTaken(t, d, meterMod(0, i+1, 1, 1))
		}
	}
}

// P13.1: two switches have nothing in common.
func TestNewApart(t *testing.T) {
	a, b := device(t, 2, 2, 2), device(t, 2, 2, 2)
	checkTaken(t, a, meterMod(0, 1, 1, 1), groupMod(0, all(1)), flowMod(0, write(1)))
	a.Port(1, false)
	a.Handle("\x04")
	if s := inside(b); s != inside(device(t, 2, 2, 2)) {
		t.Error(s)
	}
}

// P13.1: all calls of a nil one answer nothing.
func TestNil(t *testing.T) {
	var d *Device
	for _, data := range []string{"", "\x04", say(t, wire.Message{Kind: wire.Barrier}), "\x04\x63\x00\x08" + zeros(4), zeros(8), say(t, meterMod(0, 1, 1, 1)), say(t, packetOut(1, frameOf(t, plain()), output(2)))} {
		checkHandle(t, "Handle of a nil one", d, data, nil, nil)
	}
	for _, n := range []int{-1 << 63, -1, 0, 1, 2, 16, 17, 1<<63 - 1} {
		checkReceive(t, "Receive of a nil one", d, n, frameOf(t, plain()), n)
		if d.Port(n, true) != "" || d.Port(n, false) != "" {
			t.Error(n)
		}
		d.Tick(n)
	}
	if s := d.State(); s != "" {
		t.Errorf("%x", s)
	}
}

// R1: one that New did not make has no port and no room, and none of its calls panics.
func TestNotMade(t *testing.T) {
	d := &Device{}
	checkRefused(t, d, groupMod(0, all(1)), 6, 1)
	checkRefused(t, d, groupMod(1, all(1)), 6, 1)
	checkRefused(t, d, groupMod(2, all(1)), 6, 1)
	for command := range 5 {
		checkRefused(t, d, flowMod(command, write(1)), 5, 0) // P13.2: of other errors
	}
	checkRefused(t, d, flowMod(0, write(1, to(1))), 2, 9)
	checkTaken(t, d, meterMod(0, 16, 1, 2), meterMod(1, 16, 3, 4))
	d.Tick(1)
	checkState(t, "with a meter", d, meterMod(0, 16, 3, 4))
	checkTaken(t, d, meterMod(2, 16, 0, 0), packetOut(0, frameOf(t, plain()), output(1), to(1)))
	for n := -1; n < 18; n++ {
		checkReceive(t, "Receive", d, n, frameOf(t, plain()), 0)
		if d.Port(n, true) != "" || d.Port(n, false) != "" {
			t.Error(n)
		}
	}
	checkState(t, "at the end", d)
}
