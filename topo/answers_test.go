package topo

import (
	"math"
	"testing"

	"drover/api"
)

// some is a topology of five switches, of which the last one has no link. Its links come in no order.
func some() []api.Link {
	return []api.Link{
		{A: 3, PortA: 16, B: 1, PortB: 2, Cost: 0.5},
		{A: 1, PortA: 9, B: -64, Cost: 7},
		{A: 1, PortA: 1, B: 2, PortB: 16, Cost: 1e9},
		{A: 2, PortA: 3, B: -5},
		{A: 2, PortA: 2, B: 1, PortB: 16, Cost: math.Copysign(0, -1)},
		{A: 4, PortA: 8, B: -1, Cost: 2},
	}
}

func TestExamples(t *testing.T) { // chapter 14, Examples
	x := made(t, 2, api.Link{A: 1, PortA: 3, B: 2, PortB: 4})
	checkPeer(t, x, 1, 3, 2, 4, 1)
	checkPeer(t, x, 2, 4, 1, 3, 1)
	checkList(t, "Reach(1, 1)", x.Reach(1, 1), 1)
	checkList(t, "Reach(1)", x.Reach(1), 1, 2)
}

func TestSizeAndPorts(t *testing.T) { // P14.2
	x := made(t, 5, some()...)
	if x.Size() != 5 {
		t.Error(x.Size())
	}
	checkList(t, "Ports(1)", x.Ports(1), 1, 2, 9, 16)
	checkList(t, "Ports(2)", x.Ports(2), 2, 3, 16)
	checkList(t, "Ports(3)", x.Ports(3), 16)
	checkList(t, "Ports(4)", x.Ports(4), 8)
	checkList(t, "Ports(5)", x.Ports(5))
	for _, sw := range append([]int{0, -1, -5, -64, 6, 7, 32, 33}, wide...) {
		checkList(t, "Ports of what is no switch", x.Ports(sw))
	}
}

func TestPeer(t *testing.T) { // P14.2: from both ends
	x := made(t, 5, some()...)
	checkPeer(t, x, 3, 16, 1, 2, 1)
	checkPeer(t, x, 1, 2, 3, 16, 1)
	checkPeer(t, x, 1, 9, -64, 0, 2)
	checkPeer(t, x, 1, 1, 2, 16, 3)
	checkPeer(t, x, 2, 16, 1, 1, 3)
	checkPeer(t, x, 2, 3, -5, 0, 4)
	checkPeer(t, x, 2, 2, 1, 16, 5)
	checkPeer(t, x, 1, 16, 2, 2, 5)
	checkPeer(t, x, 4, 8, -1, 0, 6)
	for _, none := range [][2]int{
		{1, 3}, {3, 1}, {3, 15}, {5, 1}, {5, 16}, // ports without a link
		{1, 0}, {1, 17}, {1, -1}, {4, 0}, {4, -8}, // no ports
		{0, 0}, {0, 1}, {6, 1}, {6, 8}, {33, 1}, {-1, 8}, // no switches
		{-1, 0}, {-5, 0}, {-64, 0}, {-64, 9}, // hosts
	} {
		checkPeer(t, x, none[0], none[1], 0, 0, 0)
	}
	for _, n := range wide {
		checkPeer(t, x, n, 1, 0, 0, 0)
		checkPeer(t, x, 1, n, 0, 0, 0)
		checkPeer(t, x, n, n, 0, 0, 0)
	}
}

func TestHostsAndHome(t *testing.T) { // P14.2
	x := made(t, 5, some()...)
	checkList(t, "Hosts", x.Hosts(), 1, 5, 64)
	checkHome(t, x, 1, 4, 8)
	checkHome(t, x, 5, 2, 3)
	checkHome(t, x, 64, 1, 9)
	// Switches are no hosts, nor is a host's number with a minus before it.
	for _, host := range append([]int{0, 2, 3, 4, 6, 63, -1, -2, -3, -4, -5, -64}, wide...) {
		checkHome(t, x, host, 0, 0)
	}
	checkList(t, "Hosts", made(t, 5, joined(1, 1, 2, 2)).Hosts())
}

func TestCost(t *testing.T) { // P14.2: of the links between switches, and of those of hosts
	x := made(t, 5, some()...)
	for i, want := range []float64{0.5, 7, 1e9, 0, math.Copysign(0, -1), 2} {
		checkCost(t, x, 1+i, want)
	}
	for _, link := range append([]int{0, -1, -2, -6, 7, 8, 64}, wide...) {
		checkCost(t, x, link, 0)
	}
}

func TestAllPortsAndAllHosts(t *testing.T) { // P14.2: a switch whose ports all have links, and all hosts at once, from the last to the first
	var l []api.Link
	for port := 16; port >= 1; port-- {
		l = append(l, joined(1, port, 2, 17-port))
	}
	checkAll(t, made(t, 2, l...), model{2, l})
	l = nil
	for host := 64; host >= 1; host-- {
		l = append(l, at(host, 1+(host-1)/16, 1+(host-1)%16))
	}
	checkAll(t, made(t, 4, l...), model{4, l})
}

func checkNothing(t *testing.T, x *Topo) {
	t.Helper()
	if x.Size() != 0 {
		t.Error(x.Size())
	}
	checkList(t, "Hosts", x.Hosts())
	for _, n := range numbers(-66, 66) {
		checkList(t, "Ports", x.Ports(n))
		checkPeer(t, x, n, n, 0, 0, 0)
		checkPeer(t, x, 1, n, 0, 0, 0)
		checkPeer(t, x, n, 1, 0, 0, 0)
		checkHome(t, x, n, 0, 0)
		checkCost(t, x, n, 0)
		checkList(t, "Reach", x.Reach(n))
		checkList(t, "Reach", x.Reach(n, n))
		checkList(t, "Reach", x.Reach(1, n, 1, 2))
	}
}

func TestNilTopo(t *testing.T) { // P14.2, R1, R2
	checkNothing(t, nil)
}

func TestTopoThatNobodyMade(t *testing.T) { // R1
	checkNothing(t, new(Topo))
}
