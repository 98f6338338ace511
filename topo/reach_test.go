package topo

import (
	"slices"
	"testing"

	"drover/api"
)

// row is so many switches, each joined with the next one: link n is that of n and n+1.
func row(n int) []api.Link {
	var l []api.Link
	for sw := 1; sw < n; sw++ {
		l = append(l, joined(sw, 1, sw+1, 2))
	}
	return l
}

// ring is a row whose last switch is joined with its first one.
func ring(n int) []api.Link { return append(row(n), joined(n, 1, 1, 2)) }

// star is so many switches, of which the last one is joined with each: link n is that of n.
func star(n int) []api.Link {
	var l []api.Link
	for sw := 1; sw < n; sw++ {
		l = append(l, joined(sw, 1, n, sw))
	}
	return l
}

func fromTo(from, to int) []int {
	var l []int
	for n := from; n <= to; n++ {
		l = append(l, n)
	}
	return l
}

// mixed is a row, too, but each switch is joined with the seventh one behind it, round and round. So many must be no multiple of 7.
func mixed(n int) []api.Link {
	var l []api.Link
	sw := 1
	for range n - 1 {
		next := 1 + (sw+6)%n
		l = append(l, joined(sw, 1, next, 2))
		sw = next
	}
	return l
}

func TestReachOfNoLinks(t *testing.T) { // P14.3
	x := made(t, 4)
	for sw := 1; sw <= 4; sw++ {
		checkList(t, "Reach", x.Reach(sw), sw)
		checkList(t, "Reach", x.Reach(sw, 1, 0, -1), sw)
	}
	checkReach(t, x, model{switches: 4})
}

func TestReachOfWhatIsNoSwitch(t *testing.T) { // P14.3
	links := append(row(3), at(1, 1, 9), at(4, 2, 9))
	x := made(t, 3, links...)
	for _, sw := range append([]int{0, -1, -2, -4, 4, 5, 32, 33}, wide...) {
		checkList(t, "Reach", x.Reach(sw))
		checkList(t, "Reach", x.Reach(sw, 1))
		checkList(t, "Reach", x.Reach(sw, sw))
	}
}

func TestReachOverOneLink(t *testing.T) { // P14.3: whichever end one begins at, and whichever end stands first
	for _, link := range []api.Link{joined(1, 1, 2, 1), joined(2, 1, 1, 1)} {
		x := made(t, 3, link)
		checkList(t, "Reach(1)", x.Reach(1), 1, 2)
		checkList(t, "Reach(2)", x.Reach(2), 1, 2)
		checkList(t, "Reach(3)", x.Reach(3), 3)
		for sw := 1; sw <= 3; sw++ {
			checkList(t, "Reach, down", x.Reach(sw, 1), sw)
			checkList(t, "Reach, down twice", x.Reach(sw, 1, 1), sw)
		}
	}
}

func TestReachOverALongRow(t *testing.T) { // P14.3: with none, one or two links down
	x := made(t, 32, row(32)...)
	for sw := 1; sw <= 32; sw++ {
		checkList(t, "Reach", x.Reach(sw), fromTo(1, 32)...)
		for cut := 1; cut < 32; cut++ {
			first, last := 1, 32
			if sw <= cut {
				last = cut
			} else {
				first = cut + 1
			}
			checkList(t, "Reach, one down", x.Reach(sw, cut), fromTo(first, last)...)
		}
	}
	checkList(t, "Reach, two down", x.Reach(16, 10, 20), fromTo(11, 20)...)
	checkList(t, "Reach, two down", x.Reach(16, 20, 10), fromTo(11, 20)...)
	checkList(t, "Reach, two down", x.Reach(16, 15, 16), 16)
}

func TestReachOverALongRowThatDoesNotRise(t *testing.T) { // P14.3: what is answered rises
	l := mixed(32)
	x, m := made(t, 32, l...), model{32, l}
	checkList(t, "Reach", x.Reach(1), fromTo(1, 32)...)
	for cut := range len(l) + 1 {
		checkReach(t, x, m, cut)
	}
	slices.Reverse(l)
	x, m = made(t, 32, l...), model{32, l}
	for cut := range len(l) + 1 {
		checkReach(t, x, m, cut)
	}
}

func TestReachRoundARing(t *testing.T) { // P14.3: one link may be down, whichever
	l := ring(32)
	x, m := made(t, 32, l...), model{32, l}
	for sw := 1; sw <= 32; sw++ {
		checkList(t, "Reach", x.Reach(sw), fromTo(1, 32)...)
		for cut := 1; cut <= 32; cut++ {
			checkList(t, "Reach, one down", x.Reach(sw, cut), fromTo(1, 32)...)
		}
	}
	checkList(t, "Reach, two down", x.Reach(1, 32, 3), 1, 2, 3)
	checkList(t, "Reach, two down", x.Reach(1, 31, 3), 1, 2, 3, 32)
	for a := range 33 {
		for b := range 33 {
			checkReach(t, x, m, a, b)
		}
	}
}

func TestReachOfAStar(t *testing.T) { // P14.3
	x := made(t, 17, star(17)...)
	checkList(t, "Reach(17)", x.Reach(17), fromTo(1, 17)...)
	checkList(t, "Reach(3)", x.Reach(3), fromTo(1, 17)...)
	checkList(t, "Reach, its link down", x.Reach(3, 3), 3)
	checkList(t, "Reach, others down", x.Reach(3, 1, 2, 4), append([]int{3}, fromTo(5, 17)...)...)
	checkList(t, "Reach, all down", x.Reach(17, fromTo(1, 16)...), 17)
}

func TestReachOverLinksOfTheSameTwo(t *testing.T) { // P14.3: both of them must be down
	x := made(t, 2, joined(1, 1, 2, 1), joined(2, 2, 1, 2), joined(1, 3, 2, 3))
	for _, down := range [][]int{{}, {1}, {2}, {3}, {1, 2}, {2, 3}, {3, 1}, {1, 1, 1}} {
		checkList(t, "Reach", x.Reach(1, down...), 1, 2)
		checkList(t, "Reach", x.Reach(2, down...), 1, 2)
	}
	checkList(t, "Reach, all down", x.Reach(1, 3, 1, 2), 1)
	checkList(t, "Reach, all down", x.Reach(2, 1, 2, 3), 2)
}

func TestLinksOfHostsLeadToNoSwitch(t *testing.T) { // P14.3: nor does it matter whether they are down
	links := []api.Link{at(2, 1, 1), at(1, 2, 1), joined(3, 1, 4, 1), at(4, 3, 2), at(3, 4, 2)}
	x := made(t, 4, links...)
	for _, down := range [][]int{{}, {1}, {1, 2}, {4, 5}, {1, 2, 4, 5}} {
		checkList(t, "Reach(1)", x.Reach(1, down...), 1)
		checkList(t, "Reach(2)", x.Reach(2, down...), 2)
		checkList(t, "Reach(3)", x.Reach(3, down...), 3, 4)
		checkList(t, "Reach(4)", x.Reach(4, down...), 3, 4)
	}
	checkList(t, "Reach(3), its link down", x.Reach(3, 3), 3)
}

func TestNumbersThatAreNoLinkDoNotMatter(t *testing.T) { // P14.3
	links := row(6)
	x := made(t, 6, links...)
	for _, n := range append([]int{0, -1, -3, -5, 6, 7, 64, 65}, wide...) {
		checkList(t, "Reach", x.Reach(2, n), fromTo(1, 6)...)
		checkList(t, "Reach", x.Reach(2, n, 3, n), 1, 2, 3)
		checkList(t, "Reach", x.Reach(2, n, n, 1, 3, 3, 1), 2, 3)
	}
	checkList(t, "Reach", x.Reach(2, wide...), fromTo(1, 6)...)
}

func TestVeryManyAreDown(t *testing.T) { // P14.3
	x := made(t, 6, row(6)...)
	down := make([]int, 3000000)
	for i := range down {
		down[i] = 100 + i
	}
	checkList(t, "Reach", x.Reach(2, down...), fromTo(1, 6)...)
	for i := range down {
		down[i] = 4 + i%2
	}
	checkList(t, "Reach", x.Reach(2, down...), fromTo(1, 4)...)
	down[len(down)-1] = 1
	checkList(t, "Reach", x.Reach(2, down...), fromTo(2, 4)...)
}

func TestAllSetsOfLinksDown(t *testing.T) { // P14.3: of two squares that have a side in common, with a tail and hosts
	links := []api.Link{joined(1, 1, 2, 1), at(9, 1, 9), joined(2, 2, 3, 1), joined(3, 2, 4, 1), joined(4, 2, 1, 2), joined(6, 1, 3, 3), joined(5, 1, 2, 3), joined(5, 2, 6, 2), at(8, 6, 9), joined(7, 1, 6, 3)}
	x, m := made(t, 8, links...), model{8, links}
	for set := range 1 << len(links) {
		var down []int
		for i := range links {
			if set>>i&1 == 1 {
				down = append(down, i+1)
			}
		}
		checkReach(t, x, m, down...)
		slices.Reverse(down)
		checkReach(t, x, m, down...)
	}
}
