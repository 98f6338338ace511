package pipe

import (
	"strings"
	"testing"

	"drover/api"
	"drover/field"
	"drover/meter"
)

func checkLeft(t *testing.T, what string, x Parts, number, want int) {
	t.Helper()
	if n := x.Meters[number].Left(); n != want {
		t.Errorf("%s: the meter %d has %d left, not %d", what, number, n, want)
	}
}

// metered has an entry with a meter, which lets out by port 2 at once and by port 3 at the end.
func metered(t *testing.T, number int, l ...*meter.Bucket) Parts {
	t.Helper()
	x := withFlows(t, api.Entry{Meter: number, Apply: list(output(2)), Write: list(output(3))})
	x.Meters = l
	return x
}

func TestMeterThatIsNotThere(t *testing.T) { // P12.2: it lets all through, and no other one takes
	s := plain(1)
	dry, wet := newMeter(t, 0), newMeter(t, 100)
	for what, x := range map[string]Parts{
		"Meter 0":             metered(t, 0, dry, dry, wet),
		"no meters":           metered(t, 1),
		"one behind the last": metered(t, 2, dry, wet),
		"16 of 16":            metered(t, 16, make([]*meter.Bucket, 16)...),
		"a nil one":           metered(t, 1, dry, nil, dry),
		"the last one, nil":   metered(t, 16, make([]*meter.Bucket, 17)...),
	} {
		for range 3 {
			checkRun(t, what, x, s, outs(s, 2, 3)...)
		}
	}
	if dry.Left() != 0 || wet.Left() != 100 {
		t.Error(dry.Left(), wet.Left())
	}
}

func TestMeterTakesThePacketsBytes(t *testing.T) { // P12.2: by its number
	s := plain(1) // 16 bytes
	for _, number := range []int{1, 2, 16} {
		l := make([]*meter.Bucket, 18)
		for i := range l {
			l[i] = newMeter(t, 0)
		}
		l[number] = newMeter(t, 33)
		x := metered(t, number, l...)
		for i, n := range []int{17, 1, 1} {
			want := outs(s, 2, 3)
			if i == 2 {
				want = nil // it takes nothing, as it has but 1
			}
			checkRun(t, "a meter", x, s, want...)
			checkLeft(t, "a meter", x, number, n)
		}
		l[number].Tick(15)
		checkRun(t, "behind a Tick", x, s, outs(s, 2, 3)...)
		checkLeft(t, "behind a Tick", x, number, 0)
	}
}

func TestMeterAtTheEdges(t *testing.T) { // P12.2: as many as there are are enough
	for _, c := range []struct {
		s     field.Seen
		bytes int
	}{
		{plain(1), 16},
		{inner(1), 56},
		{tagged(plain(1), 4097), 20},
		{field.Seen{In: 1, P: api.Packet{Type: 0x88b5}}, 14},
		{field.Seen{In: 1, P: api.Packet{Type: 0x88b5, Data: strings.Repeat("x", 1486)}}, 1500},
		// no frames: 0 bytes, which even an empty one has
		{field.Seen{In: 1, P: api.Packet{Type: 0x88b5, Data: strings.Repeat("x", 1487)}}, 0},
		{field.Seen{In: 1}, 0},
		{field.Seen{In: 1, P: api.Packet{Type: 0x88b5, Vlan: 5, Data: "hi"}}, 0},
	} {
		for _, burst := range []int{0, c.bytes - 1, c.bytes, c.bytes + 1, 5000} {
			if burst < 0 {
				continue
			}
			x := metered(t, 1, nil, newMeter(t, burst))
			if burst < c.bytes {
				checkRun(t, "too little", x, c.s)
				checkLeft(t, "too little", x, 1, burst)
				continue
			}
			checkRun(t, "enough", x, c.s, outs(c.s, 2, 3)...)
			checkLeft(t, "enough", x, 1, burst-c.bytes)
		}
	}
}

func TestMeterThatEndsIt(t *testing.T) { // P12.2: what was applied in tables before stays; the action set is not done
	s := plain(1)
	x := withFlows(t,
		api.Entry{Meter: 1, Apply: list(output(2)), Write: list(output(5)), Goto: 1},
		api.Entry{Table: 1, Meter: 2, Apply: list(output(3)), Write: list(push), Goto: 2},
		api.Entry{Table: 2, Meter: 3, Apply: list(output(5), output(2)), Clear: true, Write: list(output(3))})
	for _, c := range []struct {
		bursts, left [3]int
		ports        []int
	}{
		{[3]int{15, 99, 99}, [3]int{15, 99, 99}, nil},
		{[3]int{16, 15, 99}, [3]int{0, 15, 99}, []int{2}},
		{[3]int{16, 16, 15}, [3]int{0, 0, 15}, []int{2, 3}},
		{[3]int{16, 16, 16}, [3]int{0, 0, 0}, []int{2, 3, 5, 2}},
	} {
		x.Meters = []*meter.Bucket{nil}
		for _, n := range c.bursts {
			x.Meters = append(x.Meters, newMeter(t, n))
		}
		want := outs(s, c.ports...)
		if len(want) == 4 {
			want = append(want, outs(s, 3)...) // the action set has no Push any more
		}
		checkRun(t, text(c.bursts), x, s, want...)
		for i, n := range c.left {
			checkLeft(t, text(c.bursts), x, i+1, n)
		}
	}
}

func TestMeterOfSeveralEntries(t *testing.T) { // P12.2: it takes each time, of the packet as it is then
	s := plain(1)
	x := withFlows(t,
		api.Entry{Meter: 1, Apply: list(push, output(2)), Write: list(output(5)), Goto: 1},
		api.Entry{Table: 1, Meter: 1, Apply: list(pop, output(3)), Goto: 2},
		api.Entry{Table: 2, Meter: 1, Write: list(set(api.Vlan, 4100))})
	whole := []Out{{2, tagged(s, 4096).P}, {3, s.P}, {5, s.P}}
	for burst, c := range map[int]struct {
		left int
		want []Out
	}{
		15: {15, nil},
		16: {0, whole[:1]},
		35: {19, whole[:1]}, // 16 and 20 are 36
		36: {0, whole[:2]},
		51: {15, whole[:2]},
		52: {0, whole},
		60: {8, whole},
	} {
		x.Meters = []*meter.Bucket{nil, newMeter(t, burst)}
		checkRun(t, "three entries", x, s, c.want...)
		checkLeft(t, "three entries", x, 1, c.left)
	}
}

func TestMeterOfWhatIsNoFrameAnyMore(t *testing.T) { // P12.2: a tag makes it too big
	s := field.Seen{In: 1, P: api.Packet{Type: 0x88b5, Data: strings.Repeat("x", 1483)}}
	x := withFlows(t, api.Entry{Meter: 1, Apply: list(push), Goto: 1}, api.Entry{Table: 1, Meter: 1, Write: list(output(2))})
	x.Meters = []*meter.Bucket{nil, newMeter(t, 1497)}
	checkRun(t, "1497 bytes, and 1501", x, s, outs(tagged(s, 4096), 2)...)
	checkLeft(t, "1497 bytes, and 1501", x, 1, 0)
}

func TestMeterOfAnEntryThatIsNotGoneTo(t *testing.T) { // P12.2
	x := withFlows(t, api.Entry{Apply: list(output(2))}, api.Entry{Table: 1, Meter: 1}, api.Entry{Priority: 1, Tests: []api.Test{inPort(7)}, Meter: 1})
	x.Meters = []*meter.Bucket{nil, newMeter(t, 100)}
	checkRun(t, "no meter", x, plain(1), outs(plain(1), 2)...)
	checkLeft(t, "no meter", x, 1, 100)
}
