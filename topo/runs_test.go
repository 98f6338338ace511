package topo

import (
	"math/rand"
	"slices"
	"testing"
)

func TestManyToposAreAsTheWordsSay(t *testing.T) { // P14.2, P14.3
	r := rand.New(rand.NewSource(14))
	for range 400 {
		m := anyModel(r)
		x := made(t, m.switches, m.links...)
		checkAll(t, x, m)
		for range 20 {
			checkReach(t, x, m, anyDown(r, len(m.links))...)
		}
		if t.Failed() {
			t.Fatal(m)
		}
	}
}

// checkPeers is P14.4's first half, by the calls alone.
func checkPeers(t *testing.T, x *Topo) {
	t.Helper()
	for sw := 1; sw <= x.Size(); sw++ {
		for _, port := range x.Ports(sw) {
			other, there, link := x.Peer(sw, port)
			if other > 0 {
				checkPeer(t, x, other, there, sw, port, link)
				continue
			}
			// A host's peer is its home.
			checkHome(t, x, -other, sw, port)
		}
	}
	for _, host := range x.Hosts() {
		sw, port := x.Home(host)
		if other, there, _ := x.Peer(sw, port); other != -host || there != 0 {
			t.Errorf("Peer(%d, %d): %d %d, not %d", sw, port, other, there, -host)
		}
	}
}

// checkBothWays is P14.4's second half: what can be come to from one switch can be come from.
func checkBothWays(t *testing.T, x *Topo, down ...int) {
	t.Helper()
	for sw := 1; sw <= x.Size(); sw++ {
		l := x.Reach(sw, down...)
		if !slices.Contains(l, sw) || !slices.IsSorted(l) {
			t.Errorf("Reach(%d, %v): %v", sw, down, l)
		}
		for other := 1; other <= x.Size(); other++ {
			back := x.Reach(other, down...)
			if slices.Contains(l, other) != slices.Contains(back, sw) {
				t.Errorf("Reach(%d, %v): %v, and Reach(%d, ..): %v", sw, down, l, other, back)
			}
		}
	}
}

func TestWhatFollows(t *testing.T) { // P14.4
	r := rand.New(rand.NewSource(144))
	for range 300 {
		m := anyModel(r)
		x := made(t, m.switches, m.links...)
		checkPeers(t, x)
		checkBothWays(t, x)
		for range 5 {
			checkBothWays(t, x, anyDown(r, len(m.links))...)
		}
		if t.Failed() {
			t.Fatal(m)
		}
	}
}

func TestFewerLinksReachNoMore(t *testing.T) { // P14.3: and the links' order and sides do not matter
	r := rand.New(rand.NewSource(143))
	for range 300 {
		m := anyModel(r)
		x := made(t, m.switches, m.links...)
		down := anyDown(r, len(m.links))
		sw := 1 + r.Intn(m.switches)
		before := x.Reach(sw)
		for n := range len(down) + 1 {
			now := x.Reach(sw, down[:n]...)
			for _, other := range now {
				if !slices.Contains(before, other) {
					t.Fatalf("%v: Reach(%d, %v): %v, and %v ahead", m, sw, down[:n], now, before)
				}
			}
			before = now
		}
		want := x.Reach(sw)
		turned := slices.Clone(m.links)
		slices.Reverse(turned)
		for i, y := range turned {
			if y.B > 0 {
				turned[i].A, turned[i].PortA, turned[i].B, turned[i].PortB = y.B, y.PortB, y.A, y.PortA
			}
		}
		checkList(t, "Reach of turned links", made(t, m.switches, turned...).Reach(sw), want...)
	}
}

func TestSameCallsSameAnswers(t *testing.T) { // R3: in any order
	r := rand.New(rand.NewSource(1403))
	for range 50 {
		m := anyModel(r)
		a, b := made(t, m.switches, m.links...), made(t, m.switches, m.links...)
		down := anyDown(r, len(m.links))
		checkReach(t, a, m, down...)
		checkAll(t, a, m)
		checkAll(t, b, m)
		checkReach(t, b, m, down...)
		checkReach(t, b, m)
		checkReach(t, a, m, down...)
	}
}
