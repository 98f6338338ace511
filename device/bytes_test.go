package device

import (
	"slices"
	"strings"
	"testing"

	"drover/wire"
)

func barrier(xid int) string { return head(20, 8, xid) }

func barrierBack(xid int) string { return head(21, 8, xid) }

// The document's examples.
func TestExamples(t *testing.T) {
	d := device(t, 1, 1, 1)
	checkHandle(t, "the example", d, "\x04\x02\x00\x08\x00\x00\x00\x07", []string{"\x04\x03\x00\x08\x00\x00\x00\x07"}, nil)
	if s := device(t, 1, 1, 1).State(); s != "" {
		t.Errorf("%x", s)
	}
}

// P13.2: none, one, and several at once.
func TestHandleMessages(t *testing.T) {
	d := device(t, 1, 1, 1)
	checkHandle(t, "no bytes", d, "", nil, nil)
	checkHandle(t, "one", d, barrier(3), []string{barrierBack(3)}, nil)
	checkHandle(t, "no bytes again", d, "", nil, nil)
	checkHandle(t, "two", d, barrier(1)+barrier(1<<32-1), []string{barrierBack(1), barrierBack(1<<32 - 1)}, nil)
	var data string
	var want []string
	for i := range 300 {
		data, want = data+barrier(i), append(want, barrierBack(i))
	}
	checkHandle(t, "many", d, data, want, nil)
	if d.rest != "" {
		t.Errorf("%x is kept", d.rest)
	}
}

// stream is some messages, and what comes back.
func stream(t *testing.T) (string, []string) {
	t.Helper()
	twice := say(t, meterMod(0, 1, 1, 1))
	data := barrier(1) + head(2, 10, 2) + "hi" + head(0, 8, 9) + twice + twice + head(99, 9, 5) + "x" + barrier(6)
	return data, []string{barrierBack(1), head(3, 10, 2) + "hi", refused(7, 12, 2, twice), refused(5, 1, 0, head(99, 9, 5)+"x"), barrierBack(6)}
}

// P13.2, P13.5: however bytes are cut, the same answers come, each as soon as its message is whole.
func TestHandleCut(t *testing.T) {
	data, want := stream(t)
	whole := device(t, 1, 1, 1)
	checkHandle(t, "whole", whole, data, want, nil)
	for i := range len(data) + 1 {
		for j := i; j <= len(data); j++ {
			d := device(t, 1, 1, 1)
			var got []string
			for _, part := range []string{data[:i], data[i:j], "", data[j:]} {
				l, _ := d.Handle(part)
				got = append(got, l...)
			}
			if !slices.Equal(got, want) || inside(d) != inside(whole) {
				t.Fatalf("cut at %d and %d: %x, not %x; %s", i, j, got, want, inside(d))
			}
		}
	}
	d := device(t, 1, 1, 1)
	ends := map[int]string{8: want[0], 18: want[1], 90: want[2], 99: want[3], 107: want[4]} // the bytes behind which an answer comes
	for i := range data {
		var l []string
		if s, is := ends[i+1]; is {
			l = []string{s}
		}
		checkHandle(t, "one by one", d, data[i:i+1], l, nil)
	}
	if inside(d) != inside(whole) {
		t.Error(inside(d))
	}
}

// P13.2: what is left stays, whatever else is called meanwhile.
func TestHandleLeft(t *testing.T) {
	d := device(t, 2, 1, 1)
	long := head(2, 1008, 4) + strings.Repeat("x", 1000)
	for n := range len(long) {
		checkHandle(t, "a part", d, long[n:n+1], wantAt(n == len(long)-1, head(3, 1008, 4)+strings.Repeat("x", 1000)), nil)
		d.Tick(1)
		d.Port(1, n%2 == 0)
		d.State()
		d.Receive(1, "x", 0)
		checkHandle(t, "nothing", d, "", nil, nil)
	}
	d = device(t, 2, 1, 1)
	checkHandle(t, "a length that is longer than what is there", d, head(0, 9, 4), nil, nil)
	checkHandle(t, "the rest of it, and another one", d, "x"+barrier(2), []string{refused(4, 1, 0, head(0, 9, 4)+"x"), barrierBack(2)}, nil)
	checkHandle(t, "the longest one", d, head(2, 65535, 4)+strings.Repeat("x", 65526), nil, nil)
	checkHandle(t, "its last byte", d, "x", []string{refused(4, 1, 0, head(2, 65535, 4)+strings.Repeat("x", 99))}, nil)
	checkHandle(t, "one behind it", d, barrier(2), []string{barrierBack(2)}, nil)
}

func wantAt(is bool, l ...string) []string {
	if is {
		return l
	}
	return nil
}

// P13.2: all bytes are forgotten, those of messages behind them, too; those ahead were handled.
func TestHandleForgets(t *testing.T) {
	for _, bad := range []string{
		"\x03\x00\x00\x08\x00\x00\x00\x01", "\x05\x14\x00\x08\x00\x00\x00\x01", "\x00\x00\x00\x08\x00\x00\x00\x01", "\xff" + barrier(1)[1:],
		head(20, 0, 1), head(20, 7, 1), head(20, 1, 1), head(99, 5, 1), "\x03" + head(20, 0, 1)[1:],
		"\x03\x14\x00\x09\x00\x00\x00\x01x", "\x03\x14\xff\xff\x00\x00\x00\x01", // even where more bytes should come
	} {
		for _, behind := range []string{"", "x", barrier(4), barrier(4) + barrier(5), barrier(4)[:7], head(99, 8, 1)} {
			d := device(t, 1, 1, 1)
			checkHandle(t, "forgotten", d, barrier(3)+bad+behind, []string{barrierBack(3)}, nil)
			if d.rest != "" {
				t.Errorf("%x%x: %x is kept", bad, behind, d.rest)
			}
			checkHandle(t, "the next ones", d, barrier(6)+head(2, 9, 7)+"x", []string{barrierBack(6), head(3, 9, 7) + "x"}, nil)
		}
		// They must be eight bytes ahead of it.
		for n := range 8 {
			d := device(t, 1, 1, 1)
			checkHandle(t, "a part", d, barrier(3)+bad[:n], []string{barrierBack(3)}, nil)
			if d.rest != bad[:n] {
				t.Errorf("%x is kept, of %x", d.rest, bad[:n])
			}
			checkHandle(t, "the rest", d, bad[n:]+barrier(4), nil, nil)
			checkHandle(t, "the next one", d, barrier(6), []string{barrierBack(6)}, nil)
		}
	}
}

// P13.5: what is forgotten has changed nothing, and what was ahead of it stays done.
func TestForgottenChangesNothing(t *testing.T) {
	d := device(t, 1, 1, 1)
	checkHandle(t, "forgotten", d, say(t, meterMod(0, 1, 5, 6))+zeros(8)+say(t, meterMod(0, 2, 7, 8)), nil, nil)
	checkState(t, "behind it", d, meterMod(0, 1, 5, 6))
	checkTaken(t, d, meterMod(0, 2, 7, 8))
	checkState(t, "behind all", d, meterMod(0, 1, 5, 6), meterMod(0, 2, 7, 8))
}

// P13.2: bytes that are no message are refused by their own Xid, with no more than their first 64 bytes, and the message behind them is handled.
func TestHandlePassesOver(t *testing.T) {
	for _, size := range []int{8, 9, 12, 63, 64, 65, 66, 100, 1000, 65535} {
		for _, xid := range []int{0, 1, 0x01020304, 1<<32 - 1} {
			d := device(t, 1, 1, 1)
			bad := head(99, size, xid) + strings.Repeat("y", size-8)
			checkHandle(t, "no message", d, bad+barrier(2), []string{refused(xid, 1, 0, bad), barrierBack(2)}, nil)
			checkHandle(t, "two of them", d, barrier(1)+bad+bad, []string{barrierBack(1), refused(xid, 1, 0, bad), refused(xid, 1, 0, bad)}, nil)
			checkHandle(t, "one of which the first bytes are", d, bad+"\x04", []string{refused(xid, 1, 0, bad)}, nil)
			checkHandle(t, "the others", d, barrier(3)[1:], []string{barrierBack(3)}, nil)
		}
	}
}

// P13.2: each Kind of message whose body can't be is refused so, as wire.Decode tells.
func TestHandleWrongBodies(t *testing.T) {
	port := say(t, wire.Message{Kind: wire.PortStatus, Xid: 7, Port: 1})
	meter := say(t, meterMod(0, 1, 1, 1))
	for _, bad := range []string{
		head(0, 9, 7) + "x", head(20, 9, 7) + "x", head(21, 9, 7) + "x", head(1, 8, 7), head(1, 77, 7) + zeros(69), head(2, 1009, 7) + zeros(1001), head(3, 1009, 7) + zeros(1001),
		port[:19] + "\x11" + port[20:], port[:19] + "\x00" + port[20:], head(13, 23, 7) + zeros(15), head(14, 8, 7), head(15, 8, 7), head(29, 8, 7),
		meter[:9] + "\x03" + meter[10:], meter[:15] + "\x11" + meter[16:],
		head(4, 8, 7), head(10, 8, 7), head(255, 8, 7),
	} {
		d := device(t, 1, 1, 1)
		before := inside(d)
		checkHandle(t, "no message", d, bad, []string{refused(7, 1, 0, bad)}, nil)
		if now := inside(d); now != before {
			t.Errorf("%x: %s", bad, now)
		}
	}
}

// P13.2: a refusal's Data is of its own message alone, of one that has fewer than 64 bytes, just 64, and more.
func TestRefusalData(t *testing.T) {
	for size := 8; size <= 140; size++ {
		m := wire.Message{Kind: wire.EchoBack, Xid: 6, Data: strings.Repeat("z", size-8)}
		d := device(t, 1, 1, 1)
		checkHandle(t, "refused", d, say(t, m)+barrier(8), []string{refused(6, 1, 1, say(t, m)), barrierBack(8)}, nil)
	}
}
