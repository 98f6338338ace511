package topo

import (
	"math"
	"slices"
	"testing"

	"drover/api"
)

// spoiled writes over all of a list, and behind its length.
func spoiled(l []int) {
	l = l[:cap(l)]
	for i := range l {
		l[i] = 77
	}
}

func TestLinksThatAreHandedInAreNotKept(t *testing.T) { // R2: the caller may change them
	links := slices.Grow(some(), 4)
	x := made(t, 5, links...)
	all := links[:cap(links)]
	for i := range all {
		all[i] = api.Link{A: 5, PortA: 1 + i, B: -20 - i, Cost: 99}
	}
	checkAll(t, x, model{5, some()})
	checkAll(t, made(t, 5, all[:6]...), model{5, all[:6]})
	checkAll(t, x, model{5, some()})
}

func TestNothingIsWrittenInto(t *testing.T) { // R2: nor behind the lengths, be it refused or not
	for _, wrong := range []api.Link{{}, at(5, 5, 5), at(6, 5, 5), joined(1, 1, 5, 5), joined(5, 6, 3, 16)} {
		links := append(some(), wrong, at(50, 5, 13), at(51, 5, 14))
		want := slices.Clone(links)
		for n := range len(links) + 1 {
			New(5, links[:n])
			New(0, links[:n])
		}
		if !slices.Equal(links, want) {
			t.Errorf("%v, not %v", links, want)
		}
	}
	x := made(t, 5, some()...)
	down := []int{3, 99, 1, -7, 3, 5, 1}
	want := slices.Clone(down)
	for n := range len(down) + 1 {
		for sw := range 7 {
			x.Reach(sw, down[:n]...)
		}
	}
	checkList(t, "what was down", down, want...)
}

func TestDownIsNotKept(t *testing.T) { // R2, R3: what was down at a call is down at that call alone
	x := made(t, 5, some()...)
	down := []int{1, 3, 5}
	checkList(t, "Reach", x.Reach(1, down...), 1)
	checkList(t, "Reach", x.Reach(1), 1, 2, 3)
	down[0] = 6
	checkList(t, "Reach", x.Reach(1), 1, 2, 3)
	checkList(t, "Reach", x.Reach(1, down...), 1, 3)
	checkAll(t, x, model{5, some()})
}

func TestWhatIsAnsweredIsTheCallers(t *testing.T) { // R2
	x := made(t, 5, some()...)
	for range 3 {
		for sw := range 7 {
			spoiled(x.Ports(sw))
			spoiled(x.Reach(sw))
			spoiled(x.Reach(sw, 1, 5))
		}
		spoiled(x.Hosts())
		checkAll(t, x, model{5, some()})
	}
}

func TestTwoAnswersShareNothing(t *testing.T) { // R2: nor with what is down
	x := made(t, 5, some()...)
	down := []int{1, 4, 5, 99}
	l := [][]int{x.Ports(1), x.Ports(1), x.Ports(2), x.Hosts(), x.Hosts(), x.Reach(1), x.Reach(1), x.Reach(2), x.Reach(1, down...), x.Reach(3, down[:1]...), down}
	var want [][]int
	for _, a := range l {
		want = append(want, slices.Clone(a))
	}
	for i := range l {
		spoiled(l[i])
		for k := i + 1; k < len(l); k++ {
			checkList(t, "another answer", l[k], want[k]...)
		}
	}
}

func TestToposKnowNothingOfEachOther(t *testing.T) { // R3
	first, second := some(), ring(9)
	a, b := made(t, 5, first...), made(t, 9, second...)
	checkAll(t, a, model{5, first})
	New(33, first)
	New(5, append(some(), some()...))
	checkAll(t, b, model{9, second})
	b.Reach(1, 1, 2, 3)
	checkAll(t, a, model{5, first})
	checkAll(t, made(t, 5, first...), model{5, first})
	checkAll(t, b, model{9, second})
}

func TestRefusalsLeaveNothingBehind(t *testing.T) { // R1, R3
	wrong := append(some(), api.Link{A: 5, PortA: 1, B: -2, Cost: math.NaN()})
	for range 3 {
		checkRefused(t, 5, wrong...)
		checkAll(t, made(t, 5, some()...), model{5, some()})
	}
}
