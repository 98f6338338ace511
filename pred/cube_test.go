package pred

import (
	"math/rand"
	"slices"
	"testing"

	"drover/api"
)

// wrongCubes are not whole, each in one way.
func wrongCubes() []api.Cube {
	l := []api.Cube{
		{port(0, 0)},
		{port(1, 0)},
		{port(2, 1)},
		{port(1<<63, full>>1)},
		{{}},
		{port(1, 1), port(1, 1)},
		{port(1, 1), port(2, 2)},
		{port(1, 1), at(api.Sport, 1, 1)},
		{at(api.InPort, 1, 1), at(api.Meta, 1, 1), at(api.InPort, 1, 1)},
		{at(api.InPort, 1, 1), at(api.Meta, 0, 0), at(api.Vlan, 1, 1)},
		{at(api.InPort, 1, 1), at(api.Meta, 2, 1), at(api.Vlan, 1, 1)},
		{at(api.Meta, 0, 0), at(api.Vlan, 1, 1)},
		{at(api.Meta, 1, 1), at(api.Vlan, 1, 1), at(api.Vlan, 1, 1)},
		{at(api.Meta, 1, 1), at(api.Vlan, 1, 1), port(0, 0)},
		{at(0, 1, 1)},
		{at(0, 1, 1), at(api.InPort, 1, 1)},
		{at(10, 1, 1)},
		{port(1, 1), at(10, 1, 1)},
		{at(-1, 1, 1), port(1, 1)},
	}
	for _, n := range wide {
		l = append(l, api.Cube{at(n, 1, 1)}, api.Cube{port(1, 1), at(n, 1, 1)})
	}
	return l
}

// someCubes are whole.
func someCubes() []api.Cube {
	return []api.Cube{
		nil,
		{},
		{port(1, 1)},
		{port(0, 1)},
		{port(0, full)},
		{port(full, full)},
		{port(2, 3)},
		{at(api.InPort, 1, 1)},
		{at(api.InPort, 5, 7), port(1<<63, 1<<63|1)},
		{at(api.Meta, 1, 1), at(api.Vlan, 1, 1), at(api.Src, full, full)},
		{at(1, 1, 1), at(2, 2, 2), at(3, 3, 3), at(4, 4, 4), at(5, 5, 5), at(6, 6, 6), at(7, 7, 7), at(8, 8, 8), at(9, 9, 9)},
	}
}

func TestWhole(t *testing.T) { // P16.3
	for _, c := range someCubes() {
		if !Whole(c) || !modelWhole(c) {
			t.Errorf("Whole(%x): false", c)
		}
	}
	for _, c := range wrongCubes() {
		if Whole(c) || modelWhole(c) {
			t.Errorf("Whole(%x): true", c)
		}
	}
	for a := -1; a <= 11; a++ {
		for b := -1; b <= 11; b++ {
			want := 0 < a && a < b && b < 10
			if c := (api.Cube{at(a, 1, 1), at(b, 1, 1)}); Whole(c) != want {
				t.Errorf("Whole(%x): %v", c, !want)
			}
		}
	}
}

func checkIn(t *testing.T, c api.Cube, vals []uint64, want bool) {
	t.Helper()
	if got := In(c, vals); got != want {
		t.Errorf("In(%x, %x): %v", c, vals, got)
	}
}

func TestIn(t *testing.T) { // P16.3
	ones, noughts := slices.Repeat([]uint64{full}, 10), make([]uint64, 10)
	for _, vals := range [][]uint64{nil, ones, noughts, {}, {0, 1, 2}, slices.Repeat([]uint64{7}, 30)} {
		checkIn(t, nil, vals, true)
		checkIn(t, api.Cube{}, vals, true)
		for _, c := range wrongCubes() {
			checkIn(t, c, vals, false)
		}
	}
	two := api.Cube{at(api.InPort, 5, 7), port(1<<63, 1<<63|1)}
	checkIn(t, two, []uint64{1: 5, 9: 1 << 63}, true)
	checkIn(t, two, []uint64{0: full, 1: full &^ 2, 2: full, 9: full &^ 1, 10: full, 11: 1}, true)
	checkIn(t, two, []uint64{1: 7, 9: 1 << 63}, false)
	checkIn(t, two, []uint64{1: 5, 9: 1<<63 | 1}, false)
	checkIn(t, two, []uint64{1: 5, 9: 0}, false)
	checkIn(t, two, []uint64{1: 5}, false)
	checkIn(t, api.Cube{at(api.InPort, 5, 7)}, []uint64{0, 5}, true)
	checkIn(t, api.Cube{port(0, full)}, nil, true)
	checkIn(t, api.Cube{port(0, full)}, []uint64{9: 1 << 63}, false)
	checkIn(t, api.Cube{port(0, full)}, []uint64{9: 0, 10: 1}, true)
	checkIn(t, api.Cube{port(full, full)}, ones, true)
	checkIn(t, api.Cube{port(full, full)}, ones[:9], false)
}

func TestPick(t *testing.T) { // P16.3
	for _, c := range someCubes() {
		want := make([]uint64, 10)
		for _, x := range c {
			want[x.Field] = x.Value
		}
		if l := Pick(c); !slices.Equal(l, want) || !In(c, l) {
			t.Errorf("Pick(%x): %x", c, l)
		}
	}
	for _, c := range wrongCubes() {
		if l := Pick(c); len(l) != 0 {
			t.Errorf("Pick(%x): %x", c, l)
		}
	}
}

// checkMeet is of both orders; want nil: they don't meet.
func checkMeet(t *testing.T, a, b, want api.Cube) {
	t.Helper()
	for _, c := range [][2]api.Cube{{a, b}, {b, a}} {
		if got, ok := Meet(c[0], c[1]); ok != (want != nil) || !slices.Equal(got, want) {
			t.Errorf("Meet(%x, %x): %x %v, not %x", c[0], c[1], got, ok, want)
		}
	}
}

func TestMeet(t *testing.T) { // P16.3
	checkMeet(t, nil, nil, api.Cube{})
	checkMeet(t, nil, api.Cube{port(1, 1)}, api.Cube{port(1, 1)})
	checkMeet(t, api.Cube{port(1, 1)}, api.Cube{port(2, 2)}, api.Cube{port(3, 3)})
	checkMeet(t, api.Cube{port(1, 1)}, api.Cube{port(0, 1)}, nil)
	checkMeet(t, api.Cube{port(1, 1)}, api.Cube{port(0, 2)}, api.Cube{port(1, 3)})
	checkMeet(t, api.Cube{port(6, 7)}, api.Cube{port(12, 14)}, nil)
	checkMeet(t, api.Cube{port(6, 7)}, api.Cube{port(14, 14)}, api.Cube{port(14, 15)})
	checkMeet(t, api.Cube{port(5, full)}, api.Cube{port(5, full)}, api.Cube{port(5, full)})
	checkMeet(t, api.Cube{port(5, full)}, api.Cube{port(5|1<<63, full)}, nil)
	checkMeet(t, api.Cube{port(5, full)}, api.Cube{port(1, 1)}, api.Cube{port(5, full)})
	checkMeet(t, api.Cube{port(1, 1)}, api.Cube{at(api.InPort, 0, 1)}, api.Cube{at(api.InPort, 0, 1), port(1, 1)})
	checkMeet(t, api.Cube{at(1, 1, 1), at(3, 3, 3), at(5, 0, 4)}, api.Cube{at(2, 2, 2), at(3, 4, 4), at(9, 9, 9)},
		api.Cube{at(1, 1, 1), at(2, 2, 2), at(3, 7, 7), at(5, 0, 4), at(9, 9, 9)})
	checkMeet(t, api.Cube{at(1, 1, 1), at(3, 3, 3), at(5, 0, 4)}, api.Cube{at(2, 2, 2), at(3, 4, 4), at(5, 4, 4)}, nil)
	for field := api.InPort; field <= api.Dport; field++ {
		for bit := range 64 {
			one := uint64(1) << bit
			checkMeet(t, api.Cube{at(field, full, full)}, api.Cube{at(field, 0, one)}, nil)
			checkMeet(t, api.Cube{at(field, full, full)}, api.Cube{at(field, one, one)}, api.Cube{at(field, full, full)})
			checkMeet(t, api.Cube{at(field, full&^one, full&^one)}, api.Cube{at(field, 0, one)}, api.Cube{at(field, full&^one, full)})
		}
	}
}

func TestMeetOfWhatIsNotWhole(t *testing.T) { // P16.3
	for _, wrong := range wrongCubes() {
		for _, c := range append(someCubes(), wrongCubes()...) {
			checkMeet(t, wrong, c, nil)
		}
	}
}

func checkCut(t *testing.T, a, b api.Cube, want ...api.Cube) {
	t.Helper()
	if got := Cut(a, b); !sameCubes(got, want) {
		t.Errorf("Cut(%x, %x): %x, not %x", a, b, got, want)
	}
}

func TestCut(t *testing.T) { // P16.3
	checkCut(t, nil, nil)
	checkCut(t, api.Cube{port(1, 1)}, nil)
	checkCut(t, api.Cube{port(1, 1)}, api.Cube{port(1, 1)})
	checkCut(t, api.Cube{port(3, 3)}, api.Cube{port(1, 1)})
	checkCut(t, api.Cube{port(5, full)}, api.Cube{port(1, 3)})
	checkCut(t, api.Cube{port(1, 1)}, api.Cube{port(0, 1)}, api.Cube{port(1, 1)})
	checkCut(t, api.Cube{port(1, 1)}, api.Cube{port(2, 3)}, api.Cube{port(1, 1)})
	checkCut(t, nil, api.Cube{port(2, 3)}, api.Cube{port(0, 2)}, api.Cube{port(3, 3)})
	checkCut(t, nil, api.Cube{port(1, 3)}, api.Cube{port(2, 2)}, api.Cube{port(0, 3)})
	checkCut(t, api.Cube{port(2, 2)}, api.Cube{port(2, 7)}, api.Cube{port(6, 6)}, api.Cube{port(3, 7)})
	checkCut(t, api.Cube{port(1, 1)}, api.Cube{port(1, 7)}, api.Cube{port(5, 5)}, api.Cube{port(3, 7)})
}

func TestCutOfFields(t *testing.T) { // P16.3: fields rising, the greatest bit of a field first
	checkCut(t, api.Cube{at(api.Vlan, 1, 1)}, api.Cube{at(api.InPort, 2, 6), at(api.Vlan, 1, 1), at(api.Dst, 8, 8)},
		api.Cube{at(api.InPort, 4, 4), at(api.Vlan, 1, 1)},
		api.Cube{at(api.InPort, 0, 6), at(api.Vlan, 1, 1)},
		api.Cube{at(api.InPort, 2, 6), at(api.Vlan, 1, 1), at(api.Dst, 0, 8)})
	checkCut(t, api.Cube{at(api.InPort, 2, 2), port(1, 1)}, api.Cube{at(api.InPort, 1<<63|2, 1<<63|3), at(api.Proto, 6, 7)},
		api.Cube{at(api.InPort, 2, 1<<63|2), port(1, 1)},
		api.Cube{at(api.InPort, 1<<63|3, 1<<63|3), port(1, 1)},
		api.Cube{at(api.InPort, 1<<63|2, 1<<63|3), at(api.Proto, 0, 4), port(1, 1)},
		api.Cube{at(api.InPort, 1<<63|2, 1<<63|3), at(api.Proto, 4, 6), port(1, 1)},
		api.Cube{at(api.InPort, 1<<63|2, 1<<63|3), at(api.Proto, 7, 7), port(1, 1)})
	// Another one asks nothing of it: it is alone only where they don't meet.
	checkCut(t, api.Cube{port(1, 1)}, api.Cube{at(api.InPort, 1, 1), port(0, 1)}, api.Cube{port(1, 1)})
	checkCut(t, api.Cube{port(1, 1)}, api.Cube{at(api.InPort, 1, 1), port(1, 1)}, api.Cube{at(api.InPort, 0, 1), port(1, 1)})
}

func TestCutOfAllBits(t *testing.T) { // P16.3: of each field
	for _, value := range []uint64{0, full, 0x0123456789abcdef} {
		var want []api.Cube
		var b, ahead api.Cube
		for field := api.InPort; field <= api.Dport; field++ {
			b = append(b, at(field, value, full))
			for bit := 63; bit >= 0; bit-- {
				mask := uint64(full) << bit
				want = append(want, append(slices.Clone(ahead), at(field, (value^1<<bit)&mask, mask)))
			}
			ahead = append(ahead, at(field, value, full))
		}
		checkCut(t, nil, b, want...)
		checkCut(t, b, nil)
		checkCut(t, b, b)
		if len(want) != 576 {
			t.Errorf("%d cubes", len(want))
		}
	}
}

func TestCutOfWhatIsNotWhole(t *testing.T) { // P16.3
	for _, wrong := range wrongCubes() {
		for _, c := range append(someCubes(), wrongCubes()...) {
			checkCut(t, wrong, c)
			checkCut(t, c, wrong)
		}
	}
}

func cubesOf(l []asks) []api.Cube {
	var cubes []api.Cube
	for _, a := range l {
		cubes = append(cubes, a.cube())
	}
	return cubes
}

func checkTwo(t *testing.T, a, b api.Cube) {
	t.Helper()
	first, second := asksOf(a...), asksOf(b...)
	checkCut(t, a, b, cubesOf(modelCut(first, second))...)
	if !modelMeets(first, second) {
		checkMeet(t, a, b, nil)
		return
	}
	checkMeet(t, a, b, append(api.Cube{}, modelBoth(first, second).cube()...))
}

func TestTwoCubesAreAsTheWordsSay(t *testing.T) { // P16.3
	for _, a := range someCubes() {
		for _, b := range someCubes() {
			checkTwo(t, a, b)
		}
	}
	r := rand.New(rand.NewSource(163))
	for range 10000 {
		spots := someSpots(r, 1+r.Intn(20))
		a, b := anyCube(r, spots), anyCube(r, spots)
		checkTwo(t, a, b)
		if r.Intn(2) == 0 && len(b) > 0 {
			// So that most of them meet, too.
			both, _ := Meet(a, b[:1])
			checkTwo(t, both, b)
		}
	}
}

func TestInIsAsTheWordsSay(t *testing.T) { // P16.3
	r := rand.New(rand.NewSource(1630))
	for range 2000 {
		spots := someSpots(r, 1+r.Intn(6))
		c := anyCube(r, spots)
		for n := range 1 << len(spots) {
			vals := valuesOf(r, spots, n)
			checkIn(t, c, vals, modelIn(c, vals))
			cut := r.Intn(11)
			checkIn(t, c, vals[:cut], modelIn(c, vals[:cut]))
		}
		if !In(c, Pick(c)) {
			t.Errorf("Pick(%x): %x", c, Pick(c))
		}
	}
}

func TestWhatIsLeftHasJustWhatTheOtherHasNot(t *testing.T) { // P16.3: of a's values, each once
	r := rand.New(rand.NewSource(16300))
	for range 2000 {
		spots := someSpots(r, 1+r.Intn(6))
		a, b := anyCube(r, spots), anyCube(r, spots)
		left := Cut(a, b)
		for n := range 1 << len(spots) {
			vals := valuesOf(r, spots, n)
			want := 0
			if In(a, vals) && !In(b, vals) {
				want = 1
			}
			if got := timesIn(left, vals); got != want {
				t.Errorf("Cut(%x, %x): %x are %d times in it, not %d", a, b, vals, got, want)
			}
		}
	}
}

// timesIn is in how many of the cubes the values are.
func timesIn(l []api.Cube, vals []uint64) int {
	n := 0
	for _, c := range l {
		if In(c, vals) {
			n++
		}
	}
	return n
}
