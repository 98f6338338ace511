package pipe

import (
	"math"
	"testing"

	"drover/act"
	"drover/api"
	"drover/field"
)

// leaving are the ways to let a packet leave by a port; those of entries and groups are for right actions alone.
func leaving(t *testing.T, live []bool, s field.Seen, n uint64) map[string][]Out {
	t.Helper()
	l := map[string][]Out{}
	note := func(way string, x Parts, a ...api.Action) {
		x.Live = live
		if a == nil {
			l[way] = Run(x, s, 0)
			return
		}
		l[way], _ = Act(x, s, a, 0)
	}
	note("Act", Parts{}, output(n))
	if !act.Right(output(n)) {
		return l
	}
	g := groups(t, groupOf(1, api.All, bucket(output(n))))
	note("Act, a group", Parts{Groups: g}, to(1))
	for way, x := range map[string]api.Entry{
		"Apply":          {Apply: list(output(n))},
		"Write":          {Write: list(output(n))},
		"Apply, a group": {Apply: list(to(1))},
		"Write, a group": {Write: list(to(1))},
	} {
		note(way, Parts{Flows: flows(t, x), Groups: g})
	}
	return l
}

// checkLeaves is about a packet that came in by a port; 0: it does not leave.
func checkLeaves(t *testing.T, live []bool, in int, n uint64, want int) {
	t.Helper()
	s := plain(in)
	var wanted []Out
	if want != 0 {
		wanted = outs(s, want)
	}
	for way, got := range leaving(t, live, s, n) {
		if text(got) != text(wanted) {
			t.Errorf("%s: in by %d, out by %d: %+v, not %+v", way, in, n, got, wanted)
		}
	}
}

func TestLeave(t *testing.T) { // Words
	// The place 0 is no port's, whatever it says.
	live := []bool{true, true, true, false, true}
	for _, c := range []struct {
		in   int
		n    uint64
		want int
	}{
		{2, 0, 0}, {2, 1, 1}, {1, 2, 2}, {1, 3, 0}, {1, 4, 4}, {1, 5, 0}, {1, 6, 0}, {1, 16, 0}, {1, 17, 0},
		// In itself, which may be dead or not there; another port is none of In's business.
		{0, 0, 0}, {1, 1, 0}, {2, 2, 0}, {3, 3, 0}, {4, 4, 0}, {5, 5, 0}, {3, 1, 1}, {0, 1, 1}, {5, 1, 1}, {-1, 1, 1},
		{math.MaxInt, 4, 4}, {math.MinInt, 4, 4}, {back, 4, 4}, {back, 3, 0},
		// back to In
		{1, back, 1}, {2, back, 2}, {4, back, 4}, {3, back, 0}, {0, back, 0}, {5, back, 0}, {6, back, 0}, {-1, back, 0},
		{math.MaxInt, back, 0}, {math.MinInt, back, 0}, {back, back, 0}, {1, back - 1, 0}, {1, back + 1, 0}, {1, back + 1<<32, 0},
		// numbers that no port has, the lowest bits of which are one's
		{1, 1<<16 + 2, 0}, {1, 1<<31 + 2, 0}, {1, 1<<32 - 1, 0}, {1, 1 << 32, 0}, {1, 1<<32 + 1, 0}, {1, 1<<32 + 2, 0},
		{1, 1<<63 - 1, 0}, {1, 1 << 63, 0}, {1, 1<<63 + 1, 0}, {1, 1<<63 + 2, 0}, {1, 1<<63 + 4, 0}, {1, 1<<64 - 4, 0},
		{1, 1<<64 - 2, 0}, {1, 1<<64 - 1, 0}, {-1, 1<<64 - 1, 0}, {math.MinInt, 1 << 63, 0}, {math.MaxInt, 1<<63 - 1, 0},
	} {
		checkLeaves(t, live, c.in, c.n, c.want)
	}
}

func TestLeaveByManyPorts(t *testing.T) { // Live may have more ports than switches have, or fewer
	long := alive(70000)
	long[300] = false
	for _, n := range []int{1, 16, 17, 255, 256, 257, 65535, 65536, 69999, 70000} {
		checkLeaves(t, long, 2, uint64(n), n)
		checkLeaves(t, long, n, back, n)
		checkLeaves(t, long, n, uint64(n), 0)
		checkLeaves(t, long[:n], 2, uint64(n), 0) // it is the one behind the last one
		checkLeaves(t, long[:n], n, back, 0)
	}
	checkLeaves(t, long, 2, 300, 0)
	checkLeaves(t, long, 300, back, 0)
	checkLeaves(t, long, 2, 70001, 0)
	for _, live := range [][]bool{nil, {}, {true}, {false}} {
		for _, n := range []uint64{0, 1, 2, back} {
			checkLeaves(t, live, 1, n, 0)
			checkLeaves(t, live, 0, n, 0)
		}
	}
	checkLeaves(t, []bool{false, true}, 0, 1, 1)
	checkLeaves(t, []bool{false, true}, 1, back, 1)
}

func TestLeaveAsItIs(t *testing.T) { // the whole packet, right or not
	for _, p := range []api.Packet{
		{}, {Data: "x"}, plain(1).P, inner(1).P, tagged(inner(1), 4100).P,
		{To: 1<<64 - 1, From: 1 << 63, Vlan: -3, Type: -1, Src: 1<<32 - 1, Dst: 7, Life: 1 << 40, Proto: -6, Sport: 1 << 20, Dport: -1, Data: "\x00\xff"},
	} {
		s := field.Seen{In: 1, Meta: 5, P: p}
		for way, got := range leaving(t, alive(2), s, 2) {
			checkOuts(t, way, got, []Out{{2, p}})
		}
	}
}
