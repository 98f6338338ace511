package match

import (
	"math"
	"math/rand"
	"slices"
	"testing"

	"drover/api"
	"drover/field"
)

// is is a whole test; its masks are written out, not asked for.
func is(f int, v uint64) api.Test {
	masks := []uint64{0, 0xffffffff, math.MaxUint64, 0x1fff, 0xffff, 0xffffffff, 0xffffffff, 0xff, 0xffff, 0xffff}
	return api.Test{Field: f, Value: v, Mask: masks[f]}
}

func under(f int, v, mask uint64) api.Test { return api.Test{Field: f, Value: v, Mask: mask} }

var (
	inner  = is(api.EthType, 0x800)
	isTCP  = is(api.Proto, 6)
	isUDP  = is(api.Proto, 17)
	ten    = under(api.Src, 0x0a000000, 0xff000000)
	noneOf = []int{0, -1, -2, -9, 10, 11, 12, 64, 255, 256 + api.Meta, 1<<32 + api.Meta, -api.Meta, math.MinInt, math.MaxInt}
)

func list(tests ...api.Test) []api.Test { return tests }

// needs are the tests that must stand ahead of one of a field.
func needs(f int) []api.Test {
	switch f {
	case api.Src, api.Dst, api.Proto:
		return list(inner)
	case api.Sport, api.Dport:
		return list(inner, isTCP)
	}
	return nil
}

func behind(t api.Test) []api.Test { return append(needs(t.Field), t) }

// checkRight asks Encode, too, whose error is Right's.
func checkRight(t *testing.T, want api.Errno, tests ...api.Test) {
	t.Helper()
	if e := Right(tests...); e != want {
		t.Errorf("Right of %x: %d, not %d", tests, int(e), int(want))
	}
	if s, e := Encode(tests...); e != want || (s == "") != (want != api.OK) {
		t.Errorf("Encode of %x: %q, %d, not %d", tests, s, int(e), int(want))
	}
}

func TestRight(t *testing.T) { // P5.1
	checkRight(t, api.OK)
	for f := 1; f <= 9; f++ {
		checkRight(t, api.OK, behind(is(f, 0))...)
		checkRight(t, api.OK, behind(is(f, 1))...)
		checkRight(t, api.OK, behind(under(f, 0, 1))...)
		checkRight(t, api.OK, behind(under(f, 1, 1))...)
	}
	checkRight(t, api.OK, is(1, 1), is(2, 2), is(3, 3), inner, is(5, 5), is(6, 6), isTCP, is(8, 8), is(9, 9))
	checkRight(t, api.OK, is(1, 1), is(2, 2), is(3, 3), inner, is(5, 5), is(6, 6), isUDP, is(8, 8), is(9, 9))
	checkRight(t, api.OK, inner, isUDP, is(api.Dport, 53))
	checkRight(t, api.OK, inner, ten, isTCP, under(api.Dport, 0x10, 0xf0))
}

func TestRightOfNoField(t *testing.T) { // P5.1
	for _, f := range noneOf {
		for _, x := range []api.Test{under(f, 0, 1), under(f, 0, 0), under(f, 1, 0), under(f, 0, math.MaxUint64), under(f, 7, 7)} {
			checkRight(t, api.ErrField, x)
			checkRight(t, api.ErrField, is(1, 1), x)
			checkRight(t, api.ErrField, inner, isUDP, is(9, 1), x)
			checkRight(t, api.ErrField, x, is(1, 1))
		}
	}
	checkRight(t, api.ErrField, api.Test{})
}

// P5.1: each pair of fields, in both orders and twice.
func TestRightOfOrder(t *testing.T) {
	all := []api.Test{{}, is(1, 1), is(2, 2), is(3, 3), inner, is(5, 5), is(6, 6), isTCP, is(8, 8), is(9, 9)}
	for f := 1; f <= 9; f++ {
		for g := 1; g <= f; g++ {
			// All that the two need stands ahead, so that nothing but their order is wrong.
			tests := slices.Clone(all[1 : f+1])
			checkRight(t, api.OK, tests...)
			checkRight(t, api.ErrMatch, append(tests, all[g])...)
			checkRight(t, api.ErrMatch, append(tests, under(g, 0, 1))...)
		}
	}
	checkRight(t, api.ErrMatch, inner, is(api.InPort, 1))
	checkRight(t, api.ErrMatch, inner, inner)
	checkRight(t, api.ErrMatch, is(1, 1), is(3, 3), is(2, 2))
	checkRight(t, api.ErrMatch, inner, is(5, 5), isTCP, is(6, 6))
	checkRight(t, api.ErrMatch, inner, isTCP, is(9, 5), is(8, 5))
}

// P5.1: masks at the edges of each field, and values beside them.
func TestRightOfMask(t *testing.T) {
	widths := []int{0, 32, 64, 13, 16, 32, 32, 8, 16, 16}
	for f := 1; f <= 9; f++ {
		last := uint64(1) << (widths[f] - 1)
		good := []api.Test{
			under(f, 0, last), under(f, last, last), under(f, 0, last+last/2), under(f, last/2, last+last/2),
			under(f, 0, 2*last-1), under(f, 2*last-1, 2*last-1), under(f, 0, 2*last-2), under(f, 4, 5),
		}
		bad := []api.Test{
			under(f, 0, 0), under(f, 1, 0), under(f, last, 0), under(f, math.MaxUint64, 0),
			under(f, 1, 2), under(f, 2, 1), under(f, 3, 1), under(f, last, last/2), under(f, last/2, last),
			under(f, last, 1), under(f, 2*last-1, 2*last-2), under(f, last, last-1), under(f, math.MaxUint64, 2*last-2),
		}
		if widths[f] < 64 {
			bad = append(bad,
				under(f, 0, 2*last), under(f, 2*last, 2*last), under(f, 0, 4*last-1), under(f, 1, 2*last+1),
				under(f, 0, 1<<63), under(f, 1, 1<<63+1), under(f, 0, math.MaxUint64), under(f, 2*last, 2*last-1),
				under(f, 1<<63, 2*last-1), under(f, math.MaxUint64, math.MaxUint64))
		}
		for _, x := range good {
			checkRight(t, api.OK, behind(x)...)
		}
		for _, x := range bad {
			checkRight(t, api.ErrMatch, behind(x)...)
		}
	}
}

// P5.1: Src, Dst and Proto behind nothing that says that there are such fields.
func TestRightWithoutInner(t *testing.T) {
	for f := api.Src; f <= api.Proto; f++ {
		for _, x := range []api.Test{is(f, 1), under(f, 1, 1), is(f, 6)} {
			checkRight(t, api.OK, inner, x)
			checkRight(t, api.OK, is(1, 0x800), inner, x)
			checkRight(t, api.ErrMatch, x)
			checkRight(t, api.ErrMatch, is(1, 0x800), x)
			checkRight(t, api.ErrMatch, is(2, 0x800), x)
			checkRight(t, api.ErrMatch, is(3, 0x800), x)
			checkRight(t, api.ErrMatch, x, inner)
			for _, v := range []uint64{0, 0x806, 0x801, 0x7ff, 800, 8, 0x8000, 0x880, 0x88b5, 0xffff} {
				checkRight(t, api.ErrMatch, is(4, v), x)
			}
			for _, mask := range []uint64{0x800, 0xff00, 0xfffe, 0x7fff, 0x0fff} {
				checkRight(t, api.OK, under(4, 0x800, mask))
				checkRight(t, api.ErrMatch, under(4, 0x800, mask), x)
			}
		}
	}
	checkRight(t, api.ErrMatch, is(5, 0x800), is(6, 1))
	checkRight(t, api.OK, inner, is(5, 1), is(6, 1), is(7, 1))
}

// P5.1: Sport and Dport behind nothing that says that there are ports.
func TestRightWithoutPorts(t *testing.T) {
	for f := api.Sport; f <= api.Dport; f++ {
		for _, x := range []api.Test{is(f, 1), under(f, 1, 1), is(f, 6), is(f, 17)} {
			checkRight(t, api.OK, inner, isTCP, x)
			checkRight(t, api.OK, inner, isUDP, x)
			checkRight(t, api.OK, inner, is(5, 1), isUDP, x)
			checkRight(t, api.ErrMatch, x)
			checkRight(t, api.ErrMatch, inner, x)
			checkRight(t, api.ErrMatch, inner, is(5, 6), x)
			checkRight(t, api.ErrMatch, inner, is(6, 17), x)
			checkRight(t, api.ErrMatch, isTCP, x)
			checkRight(t, api.ErrMatch, inner, x, isTCP)
			for _, v := range []uint64{0, 1, 5, 7, 16, 18, 22, 23, 0x60, 0x11 + 0x80, 255} {
				checkRight(t, api.ErrMatch, inner, is(7, v), x)
			}
			for _, c := range []api.Test{under(7, 6, 6), under(7, 6, 0xfe), under(7, 17, 0x7f), under(7, 17, 17), under(7, 6, 0x0f)} {
				checkRight(t, api.OK, inner, c)
				checkRight(t, api.ErrMatch, inner, c, x)
			}
		}
	}
	checkRight(t, api.ErrMatch, inner, is(8, 6), is(9, 1))
}

// P5.1, R1: test by test, and of one test ErrField first.
func TestRightOfSeveralErrors(t *testing.T) {
	noField, noMask := under(10, 0, 1), under(1, 0, 0)
	checkRight(t, api.ErrField, noField, noMask)
	checkRight(t, api.ErrMatch, noMask, noField)
	checkRight(t, api.ErrField, is(2, 1), under(0, 1, 0)) // not above, and no mask
	checkRight(t, api.ErrField, is(2, 1), under(-1, 1, 0))
	checkRight(t, api.ErrMatch, is(2, 1), is(1, 1), noField)
	checkRight(t, api.ErrMatch, is(5, 1), noField)
	checkRight(t, api.ErrMatch, is(8, 1), noField)
	checkRight(t, api.ErrField, is(1, 1), noField, is(8, 1))
	checkRight(t, api.ErrMatch, under(1, 2, 1), under(0, 0, 0))
	checkRight(t, api.ErrField, under(0, 0, 0), under(1, 2, 1))
}

// seen is a packet that has a number of its own in each place.
func seen(kind, proto, vlan int) field.Seen {
	return field.Seen{In: 0x11, Meta: 0x2222222222222222, P: api.Packet{
		To: 0xaaaaaaaaaaaa, From: 0xbbbbbbbbbbbb, Vlan: vlan, Type: kind, Src: 0x0a000055, Dst: 0x0b000066,
		Life: 0xcc, Proto: proto, Sport: 0x8888, Dport: 53, Data: "data",
	}}
}

func checkTakes(t *testing.T, s field.Seen, want bool, tests ...api.Test) {
	t.Helper()
	if got := Takes(tests, s); got != want {
		t.Errorf("Takes of %x, %+v: %v", tests, s, got)
	}
}

func TestTakes(t *testing.T) { // P5.2
	s := seen(0x800, 17, 4099)
	has := []uint64{0, 0x11, 0x2222222222222222, 4099, 0x800, 0x0a000055, 0x0b000066, 17, 0x8888, 53}
	checkTakes(t, s, true)
	checkTakes(t, field.Seen{}, true)
	var all []api.Test
	for f := 1; f <= 9; f++ {
		all = append(all, is(f, has[f]))
		checkTakes(t, s, true, all...)
		checkTakes(t, s, true, all[f-1])
		for i := range bitsOf[f] {
			b := uint64(1) << i
			checkTakes(t, s, true, under(f, has[f]&b, b))
			checkTakes(t, s, false, under(f, ^has[f]&b, b))
			checkTakes(t, s, false, is(f, has[f]^b))
			checkTakes(t, s, true, under(f, has[f]&^b, is(f, 0).Mask&^b))
			wrong := slices.Clone(all)
			wrong[f-1].Value ^= b
			checkTakes(t, s, false, wrong...)
			checkTakes(t, s, false, append(wrong, is(1, 0x11))...)
		}
	}
	checkTakes(t, s, true, inner, ten)
	checkTakes(t, s, true, inner, isUDP, is(api.Dport, 53))
	checkTakes(t, s, false, inner, isUDP, is(api.Dport, 54))
	checkTakes(t, s, false, inner, isTCP, is(api.Dport, 53))
	checkTakes(t, seen(0x800, 17, 0), true, is(api.Vlan, 0))
	checkTakes(t, s, false, is(api.Vlan, 0))
	checkTakes(t, s, true, under(api.Vlan, 4096, 4096))
}

// P5.2: a field that the packet has not, whatever is asked of it.
func TestTakesWithoutField(t *testing.T) {
	for _, f := range noneOf {
		for _, x := range []api.Test{under(f, 0, 0), under(f, 0, 1), under(f, 1, 1), under(f, 0, math.MaxUint64)} {
			checkTakes(t, seen(0x800, 17, 0), false, x)
			checkTakes(t, seen(0x800, 17, 0), false, inner, x)
			checkTakes(t, field.Seen{}, false, x)
		}
	}
	for f := api.Src; f <= api.Dport; f++ {
		for _, x := range []api.Test{under(f, 0, 0), under(f, 0, 1), is(f, 0)} {
			checkTakes(t, seen(0x88b5, 17, 0), false, x)
			checkTakes(t, field.Seen{}, false, x)
			checkTakes(t, field.Seen{P: api.Packet{Type: 0x800}}, f < api.Sport, x)
		}
	}
}

// P5.2: tests that are not right take by the same words.
func TestTakesOfWrongTests(t *testing.T) {
	s := seen(0x800, 17, 4099)
	checkTakes(t, s, true, under(1, 0, 0))
	checkTakes(t, s, false, under(1, 1, 0)) // under no mask there is 0 alone
	checkTakes(t, s, false, under(1, 0x11, 0x10))
	checkTakes(t, s, true, under(1, 0x10, 0x10))
	checkTakes(t, s, false, under(1, 0x11+1<<40, math.MaxUint64))
	checkTakes(t, s, true, under(1, 0x11, math.MaxUint64))
	checkTakes(t, s, true, under(7, 0, 0xff00))
	checkTakes(t, s, true, is(9, 53), is(8, 0x8888), is(7, 17))
	checkTakes(t, s, true, under(7, 1, 1), under(7, 16, 16), isUDP)
	checkTakes(t, s, false, isUDP, isTCP)
	checkTakes(t, s, false, isTCP, isUDP)
	checkTakes(t, s, true, is(9, 53)) // nothing of Proto ahead
}

func checkSame(t *testing.T, a, b []api.Test, want bool) {
	t.Helper()
	if Same(a, b) != want || Same(b, a) != want {
		t.Errorf("Same of %x, %x: not %v", a, b, want)
	}
}

func TestSame(t *testing.T) { // P5.2
	checkSame(t, nil, nil, true)
	checkSame(t, nil, list(), true)
	checkSame(t, list(inner), nil, false)
	checkSame(t, list(inner), list(inner), true)
	checkSame(t, list(inner), list(inner, isTCP), false)
	checkSame(t, list(isTCP), list(inner, isTCP), false)
	checkSame(t, list(inner, isTCP), list(inner, isUDP), false)
	checkSame(t, list(inner, isTCP), list(isTCP, inner), false)
	checkSame(t, list(inner, inner), list(inner), false)
	checkSame(t, list(inner, inner), list(inner, inner), true)
	checkSame(t, list(api.Test{}), nil, false)
	checkSame(t, list(api.Test{}), list(api.Test{}), true)
	// Nothing but a field, a value or a mask differs; that they ask the same does not make them the same.
	checkSame(t, list(is(5, 1)), list(is(6, 1)), false)
	checkSame(t, list(is(5, 1)), list(is(5, 0)), false)
	checkSame(t, list(under(5, 1, 1)), list(under(5, 1, 3)), false)
	checkSame(t, list(under(5, 0, 0)), list(under(6, 0, 0)), false)
	checkSame(t, list(under(99, 0, 1<<63)), list(under(99, 0, 1<<63)), true)
	checkSame(t, list(under(99, 0, 1<<63)), list(under(99, 0, 1<<62)), false)
	checkSame(t, list(under(1, 1<<63, 0)), list(under(1, 0, 0)), false)
}

func checkPair(t *testing.T, a, b []api.Test, covers, covered, meets bool) {
	t.Helper()
	if Covers(a, b) != covers || Covers(b, a) != covered {
		t.Errorf("Covers of %x, %x: %v, %v", a, b, Covers(a, b), Covers(b, a))
	}
	if Meets(a, b) != meets || Meets(b, a) != meets {
		t.Errorf("Meets of %x, %x: %v, %v", a, b, Meets(a, b), Meets(b, a))
	}
}

func TestCoversAndMeets(t *testing.T) { // P5.2
	one := is(5, 0x0a000001)
	checkPair(t, nil, nil, true, true, true)
	checkPair(t, nil, list(inner), true, false, true)
	checkPair(t, list(inner), list(inner), true, true, true)
	checkPair(t, list(inner), list(is(4, 0x806)), false, false, false)
	checkPair(t, list(inner, ten), list(inner, one), true, false, true)
	checkPair(t, list(inner, ten), list(inner, is(5, 0x0b000001)), false, false, false)
	checkPair(t, list(inner, ten), list(inner), false, true, true)
	checkPair(t, list(inner, ten), list(inner, is(6, 0x0a000001)), false, false, true) // Dst is not Src
	checkPair(t, list(inner, one, isTCP), list(inner, ten, isUDP), false, false, false)
	checkPair(t, list(inner, one), list(inner, ten, isUDP), false, false, true)
	// Masks that overlap, meet in no bit, or lie one in the other.
	checkPair(t, list(under(2, 0x0c, 0x3c)), list(under(2, 0x10, 0xf0)), false, false, false)
	checkPair(t, list(under(2, 0x0c, 0x3c)), list(under(2, 0xc0, 0xf0)), false, false, true)
	checkPair(t, list(under(2, 0x0c, 0x0f)), list(under(2, 0x10, 0xf0)), false, false, true)
	checkPair(t, list(under(2, 0x10, 0xf0)), list(under(2, 0x30, 0xff)), false, false, false)
	checkPair(t, list(under(2, 0x30, 0xf0)), list(under(2, 0x3f, 0xff)), true, false, true)
	checkPair(t, list(under(2, 1<<63, 1<<63)), list(is(2, 1<<63)), true, false, true)
	checkPair(t, list(under(2, 0, 1<<63)), list(is(2, 1<<63)), false, false, false)
	checkPair(t, list(under(2, 0, 1)), list(under(2, 0, 2)), false, false, true)
	checkPair(t, list(under(2, 0, 3)), list(under(2, 0, 2)), false, true, true)
}

// P5.2: tests that are not right, and several of one field.
func TestCoversAndMeetsOfWrongTests(t *testing.T) {
	low, high := under(2, 1, 0x0f), under(2, 0x20, 0xf0)
	checkPair(t, list(low, high), list(under(2, 0x21, 0xff)), true, false, true) // no one of the two has all bits of the mask
	checkPair(t, list(low), list(high, low), true, false, true)
	checkPair(t, list(low), list(low, high), true, false, true)
	checkPair(t, list(low, high), list(high, low), true, true, true)
	checkPair(t, list(low, low), list(low), true, true, true)
	checkPair(t, list(isTCP), list(isUDP, isTCP), true, false, false)
	checkPair(t, list(isTCP, isUDP), list(isTCP, isUDP), true, true, false)
	checkPair(t, list(isTCP, is(1, 1)), list(is(1, 1), isUDP), false, false, false)
	// Each of the three that must hold is one test's, not several tests'.
	checkPair(t, list(under(2, 1, 3)), list(under(2, 1, 1), under(2, 0, 3)), false, false, false)
	checkPair(t, list(under(99, 1, 1)), list(under(99, 1, 1)), true, true, true)
	checkPair(t, list(under(99, 1, 1)), list(under(99, 0, 1)), false, false, false)
	checkPair(t, list(under(99, 1, 1)), list(under(98, 0, 1)), false, false, true)
	checkPair(t, list(under(-1, 1, 1)), list(under(-1, 3, 3)), true, false, true)
	checkPair(t, list(under(1, 0, 0)), nil, false, true, true)
	checkPair(t, list(under(1, 0, 0)), list(is(1, 7)), true, false, true)
	checkPair(t, list(under(1, 0, 0)), list(is(2, 7)), false, false, true)
	// A Value has bits that its Mask has not: nothing has just it under the Mask, and no other mask asks for them.
	checkPair(t, list(under(1, 3, 1)), list(under(1, 1, 1)), false, true, true)
	checkPair(t, list(under(1, 3, 1)), list(under(1, 3, 3)), false, false, true)
	checkPair(t, list(under(1, 2, 0)), list(under(1, 2, 0)), false, false, true)
	checkPair(t, list(under(1, 2, 0)), list(under(1, 0, 2)), false, false, true)
	checkPair(t, list(under(1, 2, 1)), list(under(1, 1, 1)), false, false, false)
}

// someTests are of each kind: right and wrong ones of each field, and such as nearly meet.
func someTests() []api.Test {
	all := []api.Test{inner, is(4, 0x806), under(4, 0x800, 0xff00), isTCP, isUDP, is(7, 1), under(7, 6, 6), ten, is(5, 0x0a000055), {}}
	for _, f := range []int{0, 1, 2, 3, 6, 8, 9, 10} {
		all = append(all, under(f, 1, 1), under(f, 3, 7))
	}
	return append(all, under(1, 0, 0), under(1, 4, 3), is(1, 0x11), is(2, 1), is(3, 4099), under(3, 0, 1<<13), is(9, 53), is(8, 53), under(2, 0, 1<<63))
}

// lists are all of at most n of some tests.
func lists(n int, from []api.Test) [][]api.Test {
	all := [][]api.Test{nil}
	for last := all; n > 0; n-- {
		var next [][]api.Test
		for _, l := range last {
			for _, t := range from {
				next = append(next, append(slices.Clone(l), t))
			}
		}
		all = append(all, next...)
		last = next
	}
	return all
}

func checkModel(t *testing.T, tests []api.Test) {
	t.Helper()
	want, e := slowEncode(tests)
	if got := Right(tests...); got != e {
		t.Errorf("Right of %x: %d, not %d", tests, int(got), int(e))
	}
	if s, got := Encode(tests...); s != want || got != e {
		t.Errorf("Encode of %x: %x, %d, not %x, %d", tests, s, int(got), want, int(e))
	}
}

func checkPairModel(t *testing.T, a, b []api.Test) {
	t.Helper()
	checkSame(t, a, b, slowSame(a, b))
	checkPair(t, a, b, slowCovers(a, b), slowCovers(b, a), slowMeets(a, b))
}

// P5.1, P5.2, P5.3: the calls and the model, over all short lists.
func TestModel(t *testing.T) {
	packets := []field.Seen{{}, seen(0x800, 17, 4099), seen(0x800, 6, 0), seen(0x800, 1, 1), seen(0x88b5, 17, 0), {In: 1, Meta: 3, P: api.Packet{Type: 0x800, Proto: 6, Vlan: 3, Dst: 3, Sport: 1, Dport: 3}}}
	for _, l := range lists(3, someTests()) {
		checkModel(t, l)
		for _, s := range packets {
			if len(l) < 3 {
				checkTakes(t, s, slowTakes(l, s), l...)
			}
		}
	}
	short := lists(1, someTests())
	few := lists(2, []api.Test{isTCP, isUDP, under(7, 6, 6), under(7, 1, 0x81), under(7, 4, 3), under(7, 0, 0), is(5, 6), under(1, 1, 1)})
	for _, all := range [][][]api.Test{short, few} {
		for _, a := range all {
			for _, b := range all {
				checkPairModel(t, a, b)
			}
		}
	}
}

// anyTest often asks for what packets of anySeen have.
func anyTest(r *rand.Rand) api.Test {
	f := r.Intn(9) + 1
	x := is(f, [...]uint64{0, 1, 2, 3, 6, 17, 0x800, 4097}[r.Intn(8)])
	switch r.Intn(4) {
	case 0:
		x.Mask &= 1<<r.Intn(14) - 1
	case 1:
		x.Mask &= r.Uint64()
	}
	if r.Intn(10) > 0 {
		x.Value &= x.Mask
	}
	if r.Intn(50) == 0 {
		x.Field = r.Intn(14) - 2
	}
	return x
}

func anyMatch(r *rand.Rand) []api.Test {
	var l []api.Test
	for range r.Intn(4) {
		l = append(l, anyTest(r))
	}
	if r.Intn(2) == 0 {
		slices.SortFunc(l, func(a, b api.Test) int { return a.Field - b.Field })
	}
	return l
}

// anyRight is a match that is right.
func anyRight(r *rand.Rand) []api.Test {
	for {
		var l []api.Test
		for f := 1; f <= 9; f++ {
			x := anyTest(r)
			x.Field = f
			x.Mask &= is(f, 0).Mask
			x.Value &= x.Mask
			switch {
			case f == 4 && r.Intn(4) > 0:
				x = inner
			case f == 7 && r.Intn(4) > 0:
				x = is(7, [...]uint64{6, 17}[r.Intn(2)])
			}
			if x.Mask != 0 && r.Intn(3) > 0 {
				l = append(l, x)
			}
		}
		if slowRight(l) == api.OK {
			return l
		}
	}
}

func anySeen(r *rand.Rand) field.Seen {
	return field.Seen{In: r.Intn(4), Meta: uint64(r.Intn(4)), P: api.Packet{
		Type: [...]int{0x800, 0x800, 0x88b5}[r.Intn(3)], Proto: [...]int{6, 17, 1}[r.Intn(3)], Vlan: [...]int{0, 4097}[r.Intn(2)],
		Src: uint32(r.Intn(4)), Dst: uint32(r.Intn(4)), Sport: r.Intn(4), Dport: r.Intn(4),
	}}
}

// P5.1, P5.2, P5.3, P5.4: any matches and packets.
func TestAny(t *testing.T) {
	r := rand.New(rand.NewSource(5))
	covers, meets := 0, 0
	for range 30000 {
		a, b, s := anyMatch(r), anyMatch(r), anySeen(r)
		if r.Intn(2) == 0 {
			a, b = anyRight(r), anyRight(r)
		}
		checkModel(t, a)
		checkPairModel(t, a, b)
		takesA, takesB := Takes(a, s), Takes(b, s)
		if takesA != slowTakes(a, s) {
			t.Errorf("Takes of %x, %+v: %v", a, s, takesA)
		}
		if takesB && Covers(a, b) {
			covers++
			if !takesA {
				t.Errorf("%x covers %x, and does not take %+v", a, b, s)
			}
		}
		if takesA && takesB {
			meets++
			if !Meets(a, b) || !Meets(b, a) {
				t.Errorf("%x does not meet %x, and both take %+v", a, b, s)
			}
		}
	}
	if covers < 100 || meets < 100 {
		t.Error("too few are taken:", covers, meets)
	}
}

// R2: nothing is written into, nor behind the length.
func TestArgumentsStay(t *testing.T) {
	room := list(inner, ten, isUDP, is(9, 53), is(1, 1), is(2, 2), is(3, 3))
	before := slices.Clone(room)
	a, b := room[:4], room[:3]
	s, _ := Encode(a...)
	Encode(b...)
	Right(a...)
	Takes(a, seen(0x800, 17, 0))
	Same(a, b)
	Covers(a, b)
	Covers(b, a)
	Meets(a, b)
	l, _, _ := Decode(s)
	if !slices.Equal(room, before) || !slices.Equal(l, a) {
		t.Errorf("%x, %x", room, l)
	}
	// What is answered is the caller's.
	clear(l)
	if again, _, _ := Decode(s); !slices.Equal(again, a) {
		t.Errorf("%x", again)
	}
}

// R1: lists of many tests end, too.
func TestManyTests(t *testing.T) {
	many := slices.Repeat(list(isUDP), 1<<20)
	checkRight(t, api.ErrMatch, many...)
	checkTakes(t, seen(0x800, 17, 0), true, many...)
	checkTakes(t, seen(0x800, 17, 0), false, append(many, isTCP)...)
	checkSame(t, many, many, true)
	checkSame(t, many, many[1:], false)
	checkPair(t, many, list(isUDP), true, true, true)
	checkPair(t, many, list(under(7, 17, 0x1f)), false, true, true)
	checkPair(t, append(many, isTCP), list(isUDP), false, true, false)
}
