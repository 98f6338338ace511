package device

import (
	"slices"
	"testing"

	"drover/api"
	"drover/wire"
)

const most = 1<<32 - 1 // the greatest rate and burst

// checkLeft is of what meter 1 has.
func checkLeft(t *testing.T, what string, d *Device, want int) {
	t.Helper()
	if got := left(d)[1]; got != want {
		t.Errorf("%s: %d bytes are left, not %d", what, got, want)
	}
}

// P13.2: each Command.
func TestMeterMod(t *testing.T) {
	d := device(t, 4, 4, 4)
	for id := 1; id <= 16; id++ {
		checkRefused(t, d, meterMod(1, id, 1, 1), 12, 3)
		checkRefused(t, d, meterMod(2, id, 1, 1), 12, 3)
	}
	checkTaken(t, d, meterMod(0, 16, 5, 6), meterMod(0, 1, 0, most))
	checkRefused(t, d, meterMod(0, 1, 0, most), 12, 2)
	checkRefused(t, d, meterMod(0, 16, 1, 1), 12, 2)
	checkRefused(t, d, meterMod(1, 2, 1, 1), 12, 3)
	checkState(t, "two", d, meterMod(0, 1, 0, most), meterMod(0, 16, 5, 6))
	checkTaken(t, d, meterMod(1, 1, most, 0))
	checkState(t, "another in its place", d, meterMod(0, 1, most, 0), meterMod(0, 16, 5, 6))
	checkTaken(t, d, meterMod(2, 1, 9, 9))
	checkState(t, "one", d, meterMod(0, 16, 5, 6))
	checkRefused(t, d, meterMod(2, 1, 1, 1), 12, 3)
	checkRefused(t, d, meterMod(1, 1, 1, 1), 12, 3)
	checkTaken(t, d, meterMod(0, 1, 0, 0))
	checkState(t, "again", d, meterMod(0, 1, 0, 0), meterMod(0, 16, 5, 6))
}

// P13.2: a new one has its burst, whatever the one in whose place it is had left.
func TestMeterModIsNew(t *testing.T) {
	d := device(t, 4, 4, 4, meterMod(0, 1, 1, 20), flowMod(0, metered(1, write(1, output(2)))))
	s := frameOf(t, plain()) // 16 bytes
	checkReceive(t, "there is room", d, 1, s, 0, outs(plain(), 2)...)
	checkLeft(t, "taken", d, 4)
	checkReceive(t, "there is none", d, 1, s, 0)
	checkRefused(t, d, meterMod(0, 1, 1, 20), 12, 2)
	checkReceive(t, "still", d, 1, s, 0)
	checkTaken(t, d, meterMod(1, 1, 1, 20))
	checkLeft(t, "new", d, 20)
	checkReceive(t, "there is room again", d, 1, s, 0, outs(plain(), 2)...)
	checkTaken(t, d, meterMod(1, 1, 3, 50))
	checkLeft(t, "another one", d, 50)
	checkTaken(t, d, meterMod(1, 1, 3, 2))
	checkLeft(t, "a smaller one", d, 2)
	checkTaken(t, d, meterMod(2, 1, 0, 0), meterMod(0, 1, 1, 30))
	checkLeft(t, "one behind it", d, 30)
}

// P13.2: with a meter that is no more its entries are no more, and no others; with another one in its place all stay.
func TestMeterModDeletesEntries(t *testing.T) {
	l := several()
	for i, id := range []int{1, 0, 1, 2, 1, 2, 0, 1, 0, 1, 2, 1, 16} {
		l[i].Meter = id
	}
	begin := []wire.Message{meterMod(0, 1, 1, 1), meterMod(0, 2, 1, 1), meterMod(0, 16, 1, 1), groupMod(0, all(1)), groupMod(0, all(2))}
	d := device(t, 4, 16, 4, append(begin, flowMods(l...)...)...)
	checkState(t, "all", d, append(begin, flowMods(l...)...)...)
	checkTaken(t, d, meterMod(1, 1, 1, 1))
	checkRefused(t, d, meterMod(2, 3, 1, 1), 12, 3)
	checkState(t, "all entries stay", d, append(begin, flowMods(l...)...)...)
	checkTaken(t, d, meterMod(2, 1, 1, 1))
	checkState(t, "without 1", d, append(begin[1:5:5], flowMods(picked(l, 1, 3, 5, 6, 8, 10, 12)...)...)...)
	checkTaken(t, d, meterMod(2, 16, 1, 1))
	checkState(t, "without 16", d, append(append(begin[1:2:2], begin[3:]...), flowMods(picked(l, 1, 3, 5, 6, 8, 10)...)...)...)
	checkTaken(t, d, meterMod(2, 2, 1, 1))
	checkState(t, "without any", d, append(begin[3:5:5], flowMods(picked(l, 1, 6, 8)...)...)...)
	checkRefused(t, d, flowMod(0, l[0]), 12, 3)
}

// P13.3: Tick of some, of 0 and of a number below 0, of all meters.
func TestTick(t *testing.T) {
	d := device(t, 4, 4, 4, meterMod(0, 1, 1, 60), meterMod(0, 2, 10, 60), meterMod(0, 16, 0, 60), flowMod(0, api.Entry{Meter: 1, Goto: 1}), flowMod(0, api.Entry{Table: 1, Meter: 2, Goto: 2}), flowMod(0, api.Entry{Table: 2, Meter: 16, Write: list(output(2))}))
	checkReceive(t, "through all", d, 1, frameOf(t, inner()), 0, outs(inner(), 2)...) // 56 bytes
	at := func(what string, want ...int) {
		t.Helper()
		l := left(d)
		if got := []int{l[1], l[2], l[16]}; !slices.Equal(got, want) {
			t.Errorf("%s: %v are left, not %v", what, got, want)
		}
	}
	state := d.State()
	at("behind a packet", 4, 4, 4)
	for _, c := range []struct {
		ticks int
		want  []int
	}{{0, []int{4, 4, 4}}, {-1, []int{4, 4, 4}}, {-1 << 63, []int{4, 4, 4}}, {1, []int{5, 14, 4}}, {3, []int{8, 44, 4}}, {2, []int{10, 60, 4}}, {0, []int{10, 60, 4}}, {1<<63 - 1, []int{60, 60, 4}}, {-5, []int{60, 60, 4}}} {
		d.Tick(c.ticks)
		at("Tick", c.want...)
	}
	if now := d.State(); now != state {
		t.Errorf("%x, not %x", now, state) // how much is left is no part of it
	}
	device(t, 1, 1, 1).Tick(5)
}
