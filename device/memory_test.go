package device

import (
	"slices"
	"testing"

	"drover/pipe"
	"drover/wire"
)

// R2: what is answered is the caller's, who may write into it, and behind its length.
func TestAnswersAreTheCallers(t *testing.T) {
	data, want := stream(t)
	p := plain()
	s := frameOf(t, p)
	send := say(t, packetOut(1, s, output(2), output(3)))
	d := device(t, 4, 4, 4, flowMod(0, write(1, output(2))))
	a, o := d.Handle(data + send)
	b, u := d.Handle(data + send)
	in := d.Receive(1, s, 0)
	before := inside(d)
	for _, l := range [][]string{a, a[:cap(a)]} {
		for i := range l {
			l[i] = "spoilt"
		}
	}
	for _, l := range [][]pipe.Out{o[:cap(o)], in[:cap(in)]} {
		for i := range l {
			l[i] = pipe.Out{Port: 99}
		}
	}
	if now := inside(d); now != before {
		t.Errorf("%s, not %s", now, before)
	}
	if len(b) != len(want)+1 || b[0] != want[0] { // the meter is there twice
		t.Errorf("%x", b)
	}
	checkOuts(t, "the second answer", u, outs(p, 2, 3))
	checkReceive(t, "once more", d, 1, s, 0, outs(p, 2)...)
	checkHandle(t, "once more", d, send, nil, outs(p, 2, 3))
}

// R2: bytes that are handed in are not kept but as bytes: the caller may go on with the memory that he made them of.
func TestBytesAreNotKept(t *testing.T) {
	d := device(t, 4, 4, 4)
	made := []byte(barrier(1) + barrier(2)[:5])
	checkHandle(t, "a part", d, string(made), []string{barrierBack(1)}, nil)
	for i := range made {
		made[i] = 0xee
	}
	checkHandle(t, "the rest", d, barrier(2)[5:], []string{barrierBack(2)}, nil)
}

// R3: the same calls answer the same, of any two switches, whatever others do meanwhile.
func TestSameCallsSameAnswers(t *testing.T) {
	l := []wire.Message{meterMod(0, 9, 1, 30), meterMod(0, 3, 1, 40)}
	for id := 40; id > 0; id-- {
		l = append(l, groupMod(0, all(id, output(uint64(id%4+1)))))
	}
	for i := range 20 {
		l = append(l, flowMod(0, metered(3, write(i%7, to(uint64(i+1))))))
	}
	a := device(t, 4, 64, 64, l...)
	want := inside(a)
	for range 10 {
		b := device(t, 4, 64, 64, l...)
		if now := inside(b); now != want || inside(a) != want {
			t.Fatalf("%s, not %s", now, want)
		}
		b.Handle(say(t, groupMod(2, all(7))) + "\x04\x14")
		b.Tick(5)
		b.Port(2, false)
		s := frameOf(t, plain())
		if x, y := b.Receive(1, s, 3), b.Receive(1, s, 3); !slices.Equal(x, y) {
			t.Error(x, y)
		}
	}
}
