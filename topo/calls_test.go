package topo

import (
	"math"
	"math/rand"
	"slices"
	"testing"

	"drover/api"
)

// wide are numbers that are nothing's, and may go wrong where one counts with them.
var wide = []int{math.MinInt, math.MinInt + 1, math.MinInt32, -65536, -256, -65, 65, 256, 65536, math.MaxInt32, 1 << 32, 1<<32 + 1, math.MaxInt - 1, math.MaxInt}

// joined is a link of two switches, and at is one of a host.
func joined(a, portA, b, portB int) api.Link {
	return api.Link{A: a, PortA: portA, B: b, PortB: portB, Cost: 1}
}

func at(host, sw, port int) api.Link { return api.Link{A: sw, PortA: port, B: -host} }

func made(t *testing.T, switches int, links ...api.Link) *Topo {
	t.Helper()
	x, e := New(switches, links)
	if e != api.OK || x == nil {
		t.Fatalf("New(%d, %v): %v %v", switches, links, x, e)
	}
	return x
}

func checkRefused(t *testing.T, switches int, links ...api.Link) {
	t.Helper()
	if x, e := New(switches, links); x != nil || e != api.ErrTopo {
		t.Errorf("New(%d, %v): %v %v", switches, links, x, e)
	}
}

func checkList(t *testing.T, what string, got []int, want ...int) {
	t.Helper()
	if !slices.Equal(got, want) {
		t.Errorf("%s: %v, not %v", what, got, want)
	}
}

func checkPeer(t *testing.T, x *Topo, sw, port int, want ...int) {
	t.Helper()
	if a, b, c := x.Peer(sw, port); a != want[0] || b != want[1] || c != want[2] {
		t.Errorf("Peer(%d, %d): %d %d %d, not %v", sw, port, a, b, c, want)
	}
}

func checkHome(t *testing.T, x *Topo, host int, want ...int) {
	t.Helper()
	if a, b := x.Home(host); a != want[0] || b != want[1] {
		t.Errorf("Home(%d): %d %d, not %v", host, a, b, want)
	}
}

// checkCost tells -0 from 0.
func checkCost(t *testing.T, x *Topo, link int, want float64) {
	t.Helper()
	if got := x.Cost(link); math.Float64bits(got) != math.Float64bits(want) {
		t.Errorf("Cost(%d): %v, not %v", link, got, want)
	}
}

// numbers are all from one to another, and the wide ones.
func numbers(from, to int) []int {
	l := slices.Clone(wide)
	for n := from; n <= to; n++ {
		l = append(l, n)
	}
	return l
}

// checkAll holds every answer, but those of Reach with links that are down, against the model.
func checkAll(t *testing.T, x *Topo, m model) {
	t.Helper()
	if n := x.Size(); n != m.switches {
		t.Errorf("Size: %d, not %d", n, m.switches)
	}
	checkList(t, "Hosts", x.Hosts(), m.hosts()...)
	for _, sw := range numbers(-66, 34) {
		checkList(t, "Ports", x.Ports(sw), m.ports(sw)...)
		checkList(t, "Reach", x.Reach(sw), m.reach(sw)...)
		for _, port := range numbers(-1, 18) {
			want := m.peer(sw, port)
			checkPeer(t, x, sw, port, want[:]...)
		}
	}
	for _, host := range numbers(-66, 66) {
		want := m.home(host)
		checkHome(t, x, host, want[:]...)
	}
	for _, link := range numbers(-66, 66) {
		checkCost(t, x, link, m.cost(link))
	}
}

// checkReach is about one set of links that are down, from each switch and from what is none.
func checkReach(t *testing.T, x *Topo, m model, down ...int) {
	t.Helper()
	for sw := -1; sw <= m.switches+1; sw++ {
		if got, want := x.Reach(sw, down...), m.reach(sw, down...); !slices.Equal(got, want) {
			t.Errorf("%v: Reach(%d, %v): %v, not %v", m, sw, down, got, want)
		}
	}
}

// anyModel is one that may be: so many switches, and about so many links, of which some are those of hosts.
func anyModel(r *rand.Rand) model {
	m := model{switches: 1 + r.Intn(32)}
	if r.Intn(2) == 0 {
		m.switches = 1 + r.Intn(6)
	}
	hosts := r.Intn(10)
	for range r.Intn(90) {
		x := anyLink(r, m.switches, hosts)
		if grown := (model{m.switches, append(slices.Clone(m.links), x)}); grown.mayBe() {
			m = grown
		}
	}
	return m
}

// anyLink is one that may be by itself, but for its B that may be its A; of ten so many are those of hosts.
func anyLink(r *rand.Rand, switches, hosts int) api.Link {
	x := api.Link{A: 1 + r.Intn(switches), PortA: 1 + r.Intn(16), Cost: anyCost(r)}
	if r.Intn(10) < hosts {
		x.B = -1 - r.Intn(64)
		return x
	}
	x.B, x.PortB = 1+r.Intn(switches), 1+r.Intn(16)
	return x
}

func anyCost(r *rand.Rand) float64 {
	switch r.Intn(4) {
	case 0:
		return 0
	case 1:
		return 1e9
	case 2:
		return float64(r.Intn(100))
	}
	return r.Float64() * 1e9
}

// anyDown is some numbers of links, most of which are there, and some more than once.
func anyDown(r *rand.Rand, links int) []int {
	var l []int
	for range r.Intn(links + 3) {
		switch r.Intn(12) {
		case 0:
			l = append(l, wide[r.Intn(len(wide))])
		case 1:
			l = append(l, r.Intn(3)-1)
		default:
			l = append(l, 1+r.Intn(links+1))
		}
	}
	return l
}
