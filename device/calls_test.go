package device

import (
	"encoding/binary"
	"fmt"
	"slices"
	"strings"
	"testing"

	"drover/api"
	"drover/frame"
	"drover/pipe"
	"drover/wire"
)

const back = 4294967288 // the number of the port that is In

var (
	push = api.Action{Kind: api.Push}
	pop  = api.Action{Kind: api.Pop}
)

func output(n uint64) api.Action { return api.Action{Kind: api.Output, Value: n} }

func to(n uint64) api.Action { return api.Action{Kind: api.ToGroup, Value: n} }

func set(f int, v uint64) api.Action { return api.Action{Kind: api.Set, Field: f, Value: v} }

func list(l ...api.Action) []api.Action { return l }

func inPort(n uint64) api.Test { return api.Test{Field: api.InPort, Value: n, Mask: 1<<32 - 1} }

// say is a message as bytes. One that can't be is a fault of the test.
func say(t *testing.T, m wire.Message) string {
	t.Helper()
	s, e := wire.Encode(m)
	if e != api.OK {
		t.Fatalf("%+v: %d", m, int(e))
	}
	return s
}

// head is the first eight bytes of a message of so many bytes.
func head(kind, size, xid int) string {
	s := []byte{4, byte(kind)}
	s = binary.BigEndian.AppendUint16(s, uint16(size))
	return string(binary.BigEndian.AppendUint32(s, uint32(xid)))
}

// refused is the bytes of a refusal of some bytes, written out.
func refused(xid, kind, code int, what string) string {
	data := what[:min(64, len(what))]
	return head(1, 12+len(data), xid) + string([]byte{0, byte(kind), 0, byte(code)}) + data
}

// portStatus is the bytes of one with Xid 0, written out.
func portStatus(port int, live bool) string {
	down := "\x00\x00\x00\x01"
	if live {
		down = zeros(4)
	}
	return "\x04\x0c\x00\x50" + zeros(4) + "\x02" + zeros(10) + string([]byte{byte(port)}) + zeros(32) + down + zeros(24)
}

func zeros(n int) string { return strings.Repeat("\x00", n) }

func flowMod(command int, x api.Entry) wire.Message {
	return wire.Message{Kind: wire.FlowMod, Xid: 7, Command: command, Entry: x}
}

func groupMod(command int, g api.Group) wire.Message {
	return wire.Message{Kind: wire.GroupMod, Xid: 7, Command: command, Group: g}
}

func meterMod(command, id, rate, burst int) wire.Message {
	return wire.Message{Kind: wire.MeterMod, Xid: 7, Command: command, Meter: wire.Meter{ID: id, Rate: rate, Burst: burst}}
}

func packetOut(port int, data string, l ...api.Action) wire.Message {
	return wire.Message{Kind: wire.PacketOut, Xid: 7, Port: port, Actions: l, Data: data}
}

// all is a group of one bucket.
func all(id int, l ...api.Action) api.Group {
	return api.Group{ID: id, Kind: api.All, Buckets: []api.Bucket{{Actions: l}}}
}

// write is an entry of table 0 for all packets.
func write(priority int, l ...api.Action) api.Entry {
	return api.Entry{Priority: priority, Write: l}
}

// plain is a packet without an inner one; it has 16 bytes.
func plain() api.Packet { return api.Packet{To: 2, From: 1, Type: 0x88b5, Data: "hi"} }

// inner is a packet that has all fields but a tag; it has 56 bytes.
func inner() api.Packet {
	return api.Packet{To: 2, From: 1, Type: 0x0800, Src: 10, Dst: 11, Life: 64, Proto: 6, Sport: 1000, Dport: 80, Data: "hi"}
}

func frameOf(t *testing.T, p api.Packet) string {
	t.Helper()
	s, e := frame.Bytes(p)
	if e != api.OK {
		t.Fatal(int(e))
	}
	return s
}

// device is a switch that has taken messages, none of which it refused.
func device(t *testing.T, ports, flows, groups int, l ...wire.Message) *Device {
	t.Helper()
	d, e := New(ports, flows, groups)
	if e != api.OK {
		t.Fatal(int(e))
	}
	checkTaken(t, d, l...)
	return d
}

// checkTaken hands in messages of which none is answered, nor lets anything out.
func checkTaken(t *testing.T, d *Device, l ...wire.Message) {
	t.Helper()
	for _, m := range l {
		checkHandle(t, fmt.Sprintf("%+v", m), d, say(t, m), nil, nil)
	}
}

// checkHandle hands in bytes.
func checkHandle(t *testing.T, what string, d *Device, data string, answers []string, outs []pipe.Out) {
	t.Helper()
	l, o := d.Handle(data)
	if !slices.Equal(l, answers) {
		t.Errorf("%s: answers %x, not %x", what, l, answers)
	}
	checkOuts(t, what, o, outs)
}

func checkOuts(t *testing.T, what string, got, want []pipe.Out) {
	t.Helper()
	if !slices.Equal(got, want) {
		t.Errorf("%s: leaves %+v, not %+v", what, got, want)
	}
}

// checkRefused hands in a message that is refused, and changes nothing (P13.5).
func checkRefused(t *testing.T, d *Device, m wire.Message, kind, code int) {
	t.Helper()
	data, before := say(t, m), inside(d)
	what := fmt.Sprintf("%+v", m)
	checkHandle(t, what, d, data, []string{refused(m.Xid, kind, code, data)}, nil)
	if now := inside(d); now != before {
		t.Errorf("%s: %s, not %s", what, now, before)
	}
}

// checkState is of the messages that State tells; their Xid does not count.
func checkState(t *testing.T, what string, d *Device, l ...wire.Message) {
	t.Helper()
	want := ""
	for _, m := range l {
		m.Xid = 0
		want += say(t, m)
	}
	if got := d.State(); got != want {
		t.Errorf("%s: %x, not %x", what, got, want)
	}
}

// left is what the meters have; of one that is not there nothing.
func left(d *Device) []int {
	var l []int
	for _, b := range d.meters {
		l = append(l, b.Left())
	}
	return l
}

// inside is all that a switch goes on from.
func inside(d *Device) string { return fmt.Sprintf("%x %v %v %x", d.State(), left(d), d.live, d.rest) }

// outs is one packet, by several ports.
func outs(p api.Packet, ports ...int) []pipe.Out {
	var l []pipe.Out
	for _, port := range ports {
		l = append(l, pipe.Out{Port: port, P: p})
	}
	return l
}

func checkReceive(t *testing.T, what string, d *Device, port int, data string, pick int, want ...pipe.Out) {
	t.Helper()
	checkOuts(t, what, d.Receive(port, data, pick), want)
}
