package topo

import (
	"math"
	"math/rand"
	"slices"
	"testing"

	"drover/api"
)

// many are so many links of hosts, and of two switches behind the 64th, that may be one beside the other.
func many(n int) []api.Link {
	var l []api.Link
	for i := range n {
		if i < 64 {
			l = append(l, at(1+i, 1+i/16, 1+i%16))
		} else {
			l = append(l, joined(5, 1+i-64, 6, 1+i-64))
		}
	}
	return l
}

// pairs are so many links of two switches, of which no two have one port.
func pairs(n int) []api.Link {
	var l []api.Link
	for i := range n {
		sw := 1 + i/16*2
		l = append(l, joined(sw, 1+i%16, sw+1, 1+i%16))
	}
	return l
}

func TestHowManySwitches(t *testing.T) { // P14.1
	for n := 1; n <= 32; n++ {
		x := made(t, n)
		checkAll(t, x, model{switches: n})
		checkAll(t, made(t, n, at(1, n, 16)), model{n, []api.Link{at(1, n, 16)}})
	}
	for _, n := range append([]int{0, -1, -2, -32, -33, 33, 34, 64}, wide...) {
		checkRefused(t, n)
		checkRefused(t, n, at(1, 1, 1))
		checkRefused(t, n, joined(1, 1, 2, 1))
	}
}

func TestHowManyLinks(t *testing.T) { // P14.1
	for _, links := range [][]api.Link{nil, {}, many(1), many(63), many(64), pairs(63), pairs(64)} {
		checkAll(t, made(t, 32, links...), model{32, links})
	}
	for _, n := range []int{65, 66, 80} {
		for _, l := range [][]api.Link{many(n), pairs(n)} {
			// The first 64 may be, and the last 64: it is the number of all that may not.
			made(t, 32, l[:64]...)
			made(t, 32, l[n-64:]...)
			checkRefused(t, 32, l...)
		}
	}
	checkRefused(t, 1, make([]api.Link, 65)...)
	checkRefused(t, 1, make([]api.Link, 100000)...)
}

// linkCase is a link of four switches, and whether it may be.
type linkCase struct {
	x  api.Link
	is bool
}

// linkCases change one thing of a link at a time: of a link of two switches, and of a host's.
func linkCases() []linkCase {
	var l []linkCase
	both := func(n int, is bool, set func(x *api.Link, n int)) {
		for _, x := range []api.Link{joined(2, 5, 3, 6), at(9, 2, 5)} {
			set(&x, n)
			l = append(l, linkCase{x, is})
		}
	}
	setA := func(x *api.Link, n int) { x.A = n }
	setPortA := func(x *api.Link, n int) { x.PortA = n }
	for _, n := range []int{1, 2, 4} {
		both(n, true, setA)
	}
	for _, n := range append([]int{0, 5, 6, -1, -9, -64}, wide...) {
		both(n, false, setA)
	}
	for _, n := range []int{1, 2, 15, 16} {
		both(n, true, setPortA)
		l = append(l, linkCase{joined(2, 5, 3, n), true}, linkCase{api.Link{A: 2, PortA: 5, B: -9, PortB: n}, false})
	}
	for _, n := range append([]int{0, 17, 18, -1, -16}, wide...) {
		both(n, false, setPortA)
		l = append(l, linkCase{joined(2, 5, 3, n), false}, linkCase{api.Link{A: 2, PortA: 5, B: -9, PortB: n}, n == 0})
	}
	return append(l, endCases()...)
}

// endCases are about B.
func endCases() []linkCase {
	var l []linkCase
	for _, b := range []int{1, 3, 4} {
		l = append(l, linkCase{joined(2, 5, b, 6), true}, linkCase{joined(2, 5, b, 5), true}, linkCase{joined(2, 5, b, 0), false})
	}
	for _, b := range []int{-1, -2, -9, -63, -64} {
		l = append(l, linkCase{joined(2, 5, b, 0), true}, linkCase{joined(2, 5, b, 6), false}, linkCase{joined(2, 5, b, -1), false})
	}
	for _, b := range append([]int{2, 0, 5, 6, 32, 33, -65, -66}, wide...) { // 2 is its A
		for _, port := range []int{0, 1, 5, 6, 16} {
			l = append(l, linkCase{joined(2, 5, b, port), false})
		}
	}
	return l
}

func costCases() []linkCase {
	var l []linkCase
	add := func(is bool, costs ...float64) {
		for _, n := range costs {
			for _, x := range []api.Link{joined(2, 5, 3, 6), at(9, 2, 5)} {
				x.Cost = n
				l = append(l, linkCase{x, is})
			}
		}
	}
	add(true, 0, math.Copysign(0, -1), math.SmallestNonzeroFloat64, 0.5, 1, 999999999.5, math.Nextafter(1e9, 0), 1e9)
	add(false, -math.SmallestNonzeroFloat64, -0.5, -1, -1e9, -math.MaxFloat64, math.Inf(-1))
	add(false, math.Nextafter(1e9, 2e9), 1000000000.5, 1000000001, 1e18, math.MaxFloat64, math.Inf(1))
	add(false, math.NaN(), math.Copysign(math.NaN(), -1), math.Float64frombits(0x7ff0000000000001))
	return l
}

func TestOneLink(t *testing.T) { // P14.1: alone, and as the first, a middle and the last one of several
	others := []api.Link{joined(1, 11, 4, 11), at(30, 4, 12), joined(3, 13, 4, 13), at(31, 3, 14)}
	for _, c := range append(linkCases(), costCases()...) {
		for place := range len(others) + 1 {
			for _, l := range [][]api.Link{{c.x}, slices.Insert(slices.Clone(others), place, c.x)} {
				if is := (model{4, l}).mayBe(); is != c.is {
					t.Fatalf("%v: %v", l, is)
				}
				if !c.is {
					checkRefused(t, 4, l...)
					continue
				}
				x := made(t, 4, l...)
				number := 1 + slices.Index(l, c.x)
				checkPeer(t, x, c.x.A, c.x.PortA, c.x.B, c.x.PortB, number)
				checkCost(t, x, number, c.x.Cost)
			}
		}
	}
}

func TestLastSwitchIsAsManyAsThereAre(t *testing.T) { // P14.1: not 32 of fewer
	for n := 1; n <= 32; n++ {
		checkRefused(t, n, at(1, n+1, 1))
		if n > 1 {
			made(t, n, joined(1, 1, n, 1))
			made(t, n, joined(n, 1, 1, 1))
		}
		checkRefused(t, n, joined(1, 1, n+1, 1))
		checkRefused(t, n, joined(n+1, 1, 1, 1))
	}
}

func TestTwoLinksWithOnePort(t *testing.T) { // P14.1: also far apart in the list
	between := []api.Link{joined(5, 1, 6, 1), at(40, 5, 2), joined(6, 2, 5, 3)}
	for _, two := range [][2]api.Link{
		{joined(1, 7, 2, 1), joined(1, 7, 3, 1)}, // A and A
		{joined(1, 7, 2, 1), joined(1, 7, 2, 2)},
		{joined(1, 7, 2, 1), at(1, 1, 7)},
		{at(1, 1, 7), at(2, 1, 7)},
		{joined(1, 7, 2, 1), joined(3, 1, 1, 7)}, // A and B
		{at(1, 1, 7), joined(3, 1, 1, 7)},
		{joined(1, 7, 2, 1), joined(2, 2, 1, 7)},
		{joined(2, 1, 1, 7), joined(3, 1, 1, 7)}, // B and B
		{joined(2, 1, 1, 7), joined(2, 2, 1, 7)},
		{joined(1, 7, 2, 1), joined(1, 7, 2, 1)}, // all of it
		{joined(1, 7, 2, 1), joined(2, 1, 1, 7)},
		{at(1, 1, 7), at(1, 1, 7)},
		{at(1, 1, 7), at(1, 2, 7)}, // one host
		{at(64, 1, 7), at(64, 1, 8)},
	} {
		for _, l := range [][]api.Link{{two[0], two[1]}, {two[1], two[0]}} {
			checkRefused(t, 6, l...)
			checkRefused(t, 6, append(slices.Clone(between), l...)...)
			checkRefused(t, 6, slices.Insert(slices.Clone(l), 1, between...)...)
			for _, x := range l { // one alone may be
				made(t, 6, append(slices.Clone(between), x)...)
			}
		}
	}
}

func TestTwoLinksThatMayBe(t *testing.T) { // P14.1
	for _, l := range [][]api.Link{
		{joined(1, 7, 2, 7), joined(3, 7, 4, 7)}, // the same port of several switches
		{at(1, 1, 7), at(2, 2, 7)},
		{joined(1, 1, 2, 1), joined(1, 2, 2, 2)}, // the same two switches
		{joined(1, 1, 2, 1), joined(2, 2, 1, 2)},
		{joined(1, 1, 2, 2), joined(1, 2, 2, 1)},
		{at(1, 1, 1), at(2, 1, 2)}, // two hosts of a switch
		{at(7, 1, 1), joined(1, 7, 2, 7)},
		{at(2, 1, 1), joined(1, 2, 2, 1)}, // a host's number is no switch's
	} {
		checkAll(t, made(t, 4, l...), model{4, l})
		slices.Reverse(l)
		checkAll(t, made(t, 4, l...), model{4, l})
	}
}

func TestManyListsAreAsTheWordsSay(t *testing.T) { // P14.1: links that may be, with one thing changed or none
	r := rand.New(rand.NewSource(141))
	kinds := [2]int{}
	for range 5000 {
		m := anyModel(r)
		if len(m.links) > 0 && r.Intn(3) > 0 {
			spoil(r, &m.links[r.Intn(len(m.links))])
		}
		if !m.mayBe() {
			checkRefused(t, m.switches, m.links...)
			kinds[0]++
			continue
		}
		made(t, m.switches, m.links...)
		kinds[1]++
	}
	if min(kinds[0], kinds[1]) < 1000 {
		t.Errorf("%v: too few of a kind", kinds)
	}
}

// spoil changes one thing of a link, to what may be or not.
func spoil(r *rand.Rand, x *api.Link) {
	switch r.Intn(5) {
	case 0:
		x.A = r.Intn(36) - 2
	case 1:
		x.PortA = r.Intn(19)
	case 2:
		x.B = r.Intn(100) - 66
	case 3:
		x.PortB = r.Intn(19)
	default:
		x.Cost = r.Float64()*2e9 - 5e8
	}
}
