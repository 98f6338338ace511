package device

import (
	"strings"
	"testing"

	"drover/api"
	"drover/pipe"
	"drover/wire"
)

// P13.2: what has no answer.
func TestNothingBack(t *testing.T) {
	d := device(t, 1, 1, 1)
	before := inside(d)
	checkTaken(t, d,
		wire.Message{Kind: wire.Hello, Xid: 4}, wire.Message{Kind: wire.Hello}, wire.Message{Kind: wire.Error, Xid: 4},
		wire.Message{Kind: wire.Error, Xid: 4, Type: 5, Code: 6, Data: "x"}, wire.Message{Kind: wire.Error, Type: 65535, Code: 65535, Data: strings.Repeat("x", 64)})
	if now := inside(d); now != before {
		t.Error(now)
	}
}

// P13.2: an EchoBack has the same Data and Xid.
func TestEcho(t *testing.T) {
	d := device(t, 1, 1, 1)
	before := inside(d)
	for _, data := range []string{"", "h", "hi", "\x00\xff", strings.Repeat("e", 64), strings.Repeat("e", 65), strings.Repeat("e", 1000)} {
		for _, xid := range []int{0, 7, 1<<32 - 1} {
			size := 8 + len(data)
			checkHandle(t, "Echo", d, head(2, size, xid)+data, []string{head(3, size, xid) + data}, nil)
		}
	}
	if now := inside(d); now != before {
		t.Error(now)
	}
}

// P13.2
func TestBarrier(t *testing.T) {
	d := device(t, 1, 1, 1)
	before := inside(d)
	for _, xid := range []int{0, 7, 1<<32 - 1} {
		checkHandle(t, "Barrier", d, "\x04\x14\x00\x08"+head(0, 8, xid)[4:], []string{"\x04\x15\x00\x08" + head(0, 8, xid)[4:]}, nil)
	}
	if now := inside(d); now != before {
		t.Error(now)
	}
}

// P13.2: what a switch tells nobody tells it.
func TestKindsThatAreRefused(t *testing.T) {
	d := device(t, 4, 1, 1)
	for _, xid := range []int{0, 7, 1<<32 - 1} {
		for _, m := range []wire.Message{
			{Kind: wire.EchoBack}, {Kind: wire.EchoBack, Data: "hi"}, {Kind: wire.BarrierBack},
			{Kind: wire.PortStatus, Port: 1}, {Kind: wire.PortStatus, Port: 1, Live: true}, {Kind: wire.PortStatus, Port: 16},
		} {
			m.Xid = xid
			checkRefused(t, d, m, 1, 1)
		}
	}
}

// P13.2: of several messages the answers and the Outs come in order.
func TestOrder(t *testing.T) {
	d := device(t, 4, 4, 4)
	p, q := plain(), inner()
	l := []wire.Message{
		packetOut(1, frameOf(t, q), output(3), output(2)), {Kind: wire.Echo, Xid: 1, Data: "a"}, {Kind: wire.Hello, Xid: 2}, meterMod(1, 1, 1, 1),
		packetOut(2, frameOf(t, p), output(4)), {Kind: wire.Barrier, Xid: 3}, packetOut(2, "x"), packetOut(3, frameOf(t, p), output(1), output(3), output(2)), {Kind: wire.Echo, Xid: 4},
	}
	data := ""
	for _, m := range l {
		data += say(t, m)
	}
	want := []string{head(3, 9, 1) + "a", refused(7, 12, 3, say(t, l[3])), barrierBack(3), refused(7, 1, 0, say(t, l[6])), head(3, 8, 4)}
	leave := []pipe.Out{{Port: 3, P: q}, {Port: 2, P: q}, {Port: 4, P: p}, {Port: 1, P: p}, {Port: 2, P: p}}
	checkHandle(t, "several", d, data, want, leave)
	// Cut, they come with the part in which the last byte of their message is.
	checkHandle(t, "a part", d, data[:len(data)-1], want[:4], leave)
	checkHandle(t, "the last byte", d, data[len(data)-1:], want[4:], nil)
}

// P13.2: frames.
func TestPacketOut(t *testing.T) {
	d := device(t, 4, 4, 4, groupMod(0, all(1, push, set(api.Vlan, 4100), output(3))), groupMod(0, api.Group{ID: 2, Kind: api.Select, Buckets: []api.Bucket{{Weight: 1, Actions: list(output(3))}, {Weight: 1, Actions: list(output(4))}}}))
	d.Port(4, false)
	p := inner()
	with := func(do func(*api.Packet)) api.Packet {
		x := p
		do(&x)
		return x
	}
	tagged := with(func(x *api.Packet) { x.Vlan = 4096 })
	for _, c := range []struct {
		what string
		m    wire.Message
		want []pipe.Out
	}{
		{"no action", packetOut(1, frameOf(t, p)), nil},
		{"Output", packetOut(1, frameOf(t, p), output(2)), outs(p, 2)},
		{"Output by In", packetOut(1, frameOf(t, p), output(1)), nil},
		{"Output back", packetOut(1, frameOf(t, p), output(back)), outs(p, 1)},
		{"Output by a dead port", packetOut(1, frameOf(t, p), output(4)), nil},
		{"Output by no port", packetOut(1, frameOf(t, p), output(5), output(17), output(1<<32-1)), nil},
		{"several", packetOut(1, frameOf(t, p), output(3), output(2), output(3)), outs(p, 3, 2, 3)},
		{"of port 0", packetOut(0, frameOf(t, p), output(1), output(2), output(3), output(back)), outs(p, 1, 2, 3)},
		{"of a port that is not there", packetOut(9, frameOf(t, p), output(1), output(9), output(back)), outs(p, 1)},
		{"of a dead port", packetOut(4, frameOf(t, p), output(1), output(4), output(back)), outs(p, 1)},
		{"Push", packetOut(1, frameOf(t, p), output(2), push, output(2)), append(outs(p, 2), outs(tagged, 2)...)},
		{"Pop", packetOut(1, frameOf(t, tagged), pop, output(2)), outs(p, 2)},
		{"Set", packetOut(1, frameOf(t, p), set(api.Dport, 9), set(api.Src, 5), output(2)), outs(with(func(x *api.Packet) { x.Dport, x.Src = 9, 5 }), 2)},
		{"ToGroup", packetOut(1, frameOf(t, p), to(1), output(2)), append(outs(with(func(x *api.Packet) { x.Vlan = 4100 }), 3), outs(p, 2)...)},
		{"ToGroup of none", packetOut(1, frameOf(t, p), to(9), output(2)), outs(p, 2)},
		{"pick is 0", packetOut(1, frameOf(t, p), to(2)), outs(p, 3)},
		{"a frame without an inner packet", packetOut(1, frameOf(t, plain()), output(2)), outs(plain(), 2)},
	} {
		before := inside(d)
		checkHandle(t, c.what, d, say(t, c.m), nil, c.want)
		if now := inside(d); now != before {
			t.Errorf("%s: %s, not %s", c.what, now, before)
		}
	}
}

// P13.2: what is no frame.
func TestPacketOutRefused(t *testing.T) {
	d := device(t, 4, 4, 4)
	good := frameOf(t, inner())
	sum := good[:24] + string([]byte{good[24] ^ 1}) + good[25:] // the inner head's sum is another one
	for _, data := range []string{"", "x", good[:13], good[:20], sum, good + "x", zeros(1500)} {
		checkRefused(t, d, packetOut(1, data, output(2)), 1, 0)
		checkRefused(t, d, packetOut(0, data), 1, 0)
	}
	big := plain()
	big.Data = strings.Repeat("x", 1486)
	checkHandle(t, "the greatest frame", d, say(t, packetOut(1, frameOf(t, big), output(2))), nil, outs(big, 2))
}
