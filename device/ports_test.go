package device

import (
	"fmt"
	"testing"

	"drover/api"
)

// P13.3: a packet goes through the switch from the port that it came in by.
func TestReceive(t *testing.T) {
	x := write(2, output(back))
	x.Tests = []api.Test{inPort(3)}
	d := device(t, 4, 4, 4, flowMod(0, x), flowMod(0, write(1, output(2))))
	p := inner()
	s := frameOf(t, p)
	for port, want := range map[int][]int{1: {2}, 2: nil, 3: {3}, 4: {2}, 0: nil, 5: nil, -1: nil, 16: nil, 17: nil, 1<<63 - 1: nil, -1 << 63: nil, back: nil} {
		checkReceive(t, fmt.Sprint(port), d, port, s, 0, outs(p, want...)...)
	}
	for _, bad := range []string{"", "x", s[:len(s)-1], s + "x", s[:24] + "\x00\x00" + s[26:], zeros(1501)} {
		checkReceive(t, fmt.Sprintf("%x", bad), d, 1, bad, 0)
	}
	checkReceive(t, "without an entry", device(t, 4, 4, 4), 1, s, 0)
}

// P13.3: Meta is 0 at first, and the packet goes on from table to table.
func TestReceiveTables(t *testing.T) {
	none := api.Entry{Priority: 1, Tests: []api.Test{{Field: api.Meta, Mask: 1<<64 - 1}}, Meta: 5, MetaMask: 7, Goto: 3, Apply: list(output(2))}
	five := api.Entry{Table: 3, Priority: 1, Tests: []api.Test{{Field: api.Meta, Value: 5, Mask: 1<<64 - 1}}, Write: list(output(3))}
	d := device(t, 4, 4, 4, flowMod(0, none), flowMod(0, five))
	for range 2 {
		checkReceive(t, "through two tables", d, 1, frameOf(t, plain()), 0, outs(plain(), 2, 3)...)
	}
}

// P13.3: a pick picks.
func TestReceivePick(t *testing.T) {
	g := api.Group{ID: 1, Kind: api.Select, Buckets: []api.Bucket{{Weight: 2, Actions: list(output(2))}, {Weight: 1, Actions: list(output(3))}}}
	d := device(t, 4, 4, 4, groupMod(0, g), flowMod(0, write(1, to(1))))
	for pick, want := range map[int]int{0: 2, 1: 2, 2: 3, 3: 2, 5: 3, -1: 3, -2: 2, -3: 2, 300: 2, 302: 3} {
		checkReceive(t, fmt.Sprint("pick ", pick), d, 1, frameOf(t, plain()), pick, outs(plain(), want)...)
	}
}

// P13.3: a meter lets through what it has.
func TestReceiveMeter(t *testing.T) {
	d := device(t, 4, 4, 4, meterMod(0, 3, 2, 40), flowMod(0, metered(3, write(1, output(2)))))
	s := frameOf(t, plain()) // 16 bytes
	checkReceive(t, "the first", d, 1, s, 0, outs(plain(), 2)...)
	checkReceive(t, "no frame takes nothing", d, 1, "x", 0)
	checkReceive(t, "no port takes nothing", d, 5, s, 0)
	checkReceive(t, "the second", d, 1, s, 0, outs(plain(), 2)...)
	checkReceive(t, "the third", d, 1, s, 0)
	d.Tick(3)
	checkReceive(t, "14 bytes", d, 1, s, 0)
	d.Tick(1)
	d.Port(1, false)
	checkReceive(t, "a dead port takes nothing", d, 1, s, 0)
	d.Port(1, true)
	checkReceive(t, "16 bytes", d, 1, s, 0, outs(plain(), 2)...)
	checkReceive(t, "none", d, 1, s, 0)
}

// P13.3: a port dies and lives again, and the controller is told of each change, once.
func TestPort(t *testing.T) {
	for port := 1; port <= 16; port++ {
		d := device(t, 16, 1, 1)
		for i, c := range []struct {
			live, told bool
		}{{true, false}, {false, true}, {false, false}, {true, true}, {true, false}, {false, true}} {
			want := ""
			if c.told {
				want = portStatus(port, c.live)
			}
			if s := d.Port(port, c.live); s != want {
				t.Errorf("%d, port %d: %x, not %x", i, port, s, want)
			}
			for other := range d.live {
				if other >= 1 && d.live[other] != (other != port || c.live) {
					t.Errorf("%d, port %d: %v", i, port, d.live)
				}
			}
		}
	}
	for _, port := range []int{0, -1, 5, 16, 17, 1<<63 - 1, -1 << 63} {
		d := device(t, 4, 1, 1)
		before := inside(d)
		if d.Port(port, true) != "" || d.Port(port, false) != "" || inside(d) != before {
			t.Error(port)
		}
	}
}

// P13.3: what leaves minds which ports are alive, and so does what comes in.
func TestDeadPorts(t *testing.T) {
	over := api.Group{ID: 1, Kind: api.Failover, Buckets: []api.Bucket{{Watch: 3, Actions: list(output(3))}, {Watch: 4, Actions: list(output(4))}}}
	d := device(t, 4, 4, 4, groupMod(0, over), flowMod(0, api.Entry{Priority: 1, Apply: list(output(2), output(back)), Write: list(to(1))}))
	p := plain()
	s := frameOf(t, p)
	at := func(what string, want ...int) {
		t.Helper()
		checkReceive(t, what, d, 1, s, 0, outs(p, want...)...)
		checkHandle(t, what, d, say(t, packetOut(1, s, output(2), output(back), to(1))), nil, outs(p, want...))
	}
	at("all alive", 2, 1, 3)
	d.Port(2, false)
	at("2 dead", 1, 3)
	d.Port(3, false)
	at("2 and 3 dead", 1, 4)
	d.Port(4, false)
	at("2 to 4 dead", 1)
	d.Port(3, true)
	at("2 and 4 dead", 1, 3)
	d.Port(2, true)
	at("4 dead", 2, 1, 3)
	d.Port(1, false)
	checkReceive(t, "in by a dead port", d, 1, s, 0)
	checkHandle(t, "as if in by a dead port", d, say(t, packetOut(1, s, output(2), output(back), to(1))), nil, outs(p, 2, 3))
	d.Port(1, true)
	at("4 dead again", 2, 1, 3)
}
