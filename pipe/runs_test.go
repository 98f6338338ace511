package pipe

import (
	"math/rand"
	"slices"
	"strings"
	"testing"

	"drover/api"
	"drover/field"
	"drover/group"
	"drover/meter"
	"drover/table"
)

// one is one of several, whichever.
func one[T any](r *rand.Rand, l ...T) T { return l[r.Intn(len(l))] }

func anySeen(r *rand.Rand) field.Seen {
	s := field.Seen{In: one(r, 1, 1, 2, 3, 4, 0, 9, -1), Meta: uint64(r.Intn(8))}
	s.P = one(r, plain(1).P, inner(1).P, inner(1).P, api.Packet{}, api.Packet{Type: 0x88b5, Data: strings.Repeat("x", 1484)})
	s.P.Vlan = one(r, 0, 0, 4096, 4100)
	return s
}

// anyAction is right; it leads to the groups below one alone.
func anyAction(r *rand.Rand, below int) api.Action {
	switch n := r.Intn(12); {
	case n < 4:
		return output(uint64(one(r, 1, 2, 2, 3, 4, 5, 6, 40, back)))
	case n < 8 && below > 1:
		// Most lead to the one just below, so that there are deep ones.
		return to(uint64(max(1, below-1-r.Intn(3))))
	case n < 9:
		return push
	case n < 10:
		return pop
	}
	return one(r, set(api.Vlan, 4096+uint64(r.Intn(5))), set(api.Src, uint64(r.Intn(3))), set(api.Dst, 9), set(api.Sport, 8), set(api.Dport, uint64(80+r.Intn(2))))
}

func anyActions(r *rand.Rand, most, below int) []api.Action {
	var l []api.Action
	for range r.Intn(most + 1) {
		l = append(l, anyAction(r, below))
	}
	return l
}

// anyGroup leads to groups of lower numbers; a wide one has many buckets, of which many lead on.
func anyGroup(r *rand.Rand, id int, wide bool) api.Group {
	g := api.Group{ID: id, Kind: one(r, api.All, api.All, api.Select, api.Indirect, api.Failover)}
	n := r.Intn(5)
	if wide {
		g.Kind, n = api.All, 1+r.Intn(16)
	}
	if g.Kind == api.Indirect {
		n = 1
	}
	for range n {
		b := api.Bucket{Watch: one(r, 0, 1, 2, 3, 4), Weight: r.Intn(3), Actions: anyActions(r, 5, id)}
		if g.Kind == api.Failover {
			b.Watch = 1 + r.Intn(5)
		}
		if wide && id > 1 && r.Intn(3) == 0 {
			b.Actions = append(b.Actions, to(uint64(id-1)))
		}
		g.Buckets = append(g.Buckets, b)
	}
	return g
}

func anyTests(r *rand.Rand) []api.Test {
	whole := api.Test{Field: api.EthType, Value: 0x0800, Mask: 0xffff}
	return one(r, nil, nil, nil,
		[]api.Test{inPort(uint64(1 + r.Intn(3)))}, []api.Test{meta(uint64(r.Intn(8)), 7)}, []api.Test{meta(uint64(r.Intn(2)), 1)},
		[]api.Test{vlan(one[uint64](r, 0, 4096, 4100))}, []api.Test{whole}, []api.Test{whole, {Field: api.Src, Value: uint64(r.Intn(3)), Mask: 3}})
}

func anyEntry(r *rand.Rand, groups int) api.Entry {
	x := api.Entry{Table: one(r, 0, 0, 1, 2, 3, 6, 7), Priority: r.Intn(4), Tests: anyTests(r), Clear: r.Intn(4) == 0}
	x.Apply, x.Write = anyActions(r, one(r, 0, 2, 5, 32), groups+2), anyActions(r, 5, groups+2)
	x.MetaMask = uint64(r.Intn(8))
	x.Meta = x.MetaMask & uint64(r.Intn(8))
	x.Meter = one(r, 0, 0, 1, 2, 3, 16)
	if x.Table < 7 && r.Intn(4) > 0 {
		x.Goto = one(r, x.Table+1, x.Table+1, 7, min(7, x.Table+3))
	}
	return x
}

func anyParts(t *testing.T, r *rand.Rand) Parts {
	t.Helper()
	f, _ := table.New(1 + r.Intn(30))
	g, _ := group.New(64)
	n, wide := r.Intn(15), r.Intn(3) == 0
	for id := 1; id <= n; id++ {
		if e := g.Add(anyGroup(r, id, wide)); e != api.OK {
			t.Fatal(int(e))
		}
	}
	for range r.Intn(25) {
		if e := f.Add(anyEntry(r, n), false); e != api.OK && e != api.ErrFull {
			t.Fatal(int(e))
		}
	}
	x := Parts{Flows: f, Groups: g, Live: make([]bool, one(r, 6, 6, 7, r.Intn(8)))}
	for i := range x.Live {
		x.Live[i] = r.Intn(5) > 0
	}
	return x
}

// anyMeters are two lists of the same meters.
func anyMeters(r *rand.Rand) (a, b []*meter.Bucket) {
	for range r.Intn(5) {
		burst := one(r, 0, 20, 300, 5000)
		p, _ := meter.New(1, burst)
		q, _ := meter.New(1, burst)
		if r.Intn(4) == 0 {
			p, q = nil, nil
		}
		a, b = append(a, p), append(b, q)
	}
	return a, b
}

// anyPick is small, so that it tells buckets apart, or an edge.
func anyPick(r *rand.Rand) int { return one(r, r.Intn(5), r.Intn(5), -r.Intn(5), 1<<63-1, -1<<63) }

// wildActions need not be right.
func wildActions(r *rand.Rand, groups int) []api.Action {
	l := anyActions(r, one(r, 3, 10, 200), groups+2)
	for range r.Intn(3) {
		wild := api.Action{Kind: r.Intn(9) - 1, Field: r.Intn(12) - 1, Value: one[uint64](r, 0, 1, 2, 1<<32, 1<<32+1, 1<<63, 1<<63+2, 1<<64-1)}
		l = slices.Insert(l, r.Intn(len(l)+1), wild)
	}
	return l
}

// checkFollows holds an answer against what follows from the promises (P12.3), whatever the model says.
func checkFollows(t *testing.T, x Parts, s field.Seen, l []Out) {
	t.Helper()
	if len(l) > 64 {
		t.Errorf("%d Outs", len(l))
	}
	for _, o := range l {
		if o.Port < 1 || o.Port >= len(x.Live) || !x.Live[o.Port] {
			t.Errorf("a packet leaves by %d, of %v", o.Port, x.Live)
		}
		p := s.P
		p.Vlan, p.Src, p.Dst, p.Sport, p.Dport = o.P.Vlan, o.P.Src, o.P.Dst, o.P.Sport, o.P.Dport
		if o.P != p {
			t.Errorf("%+v leaves as %+v", s.P, o.P)
		}
	}
}

// seen counts what came, so that no part of the words is left out by chance.
type seen map[string]int

func (n seen) note(m *model) {
	for what, is := range map[string]bool{
		"no Out": len(m.all) == 0, "1 to 63 Outs": len(m.all) > 0 && len(m.all) < 64, "more Outs": len(m.all) > 64,
		"buckets": m.buckets > 0 && m.buckets < 256, "more buckets": m.buckets > 256, "too deep": m.deep,
	} {
		if is {
			n[what]++
		}
	}
}

func (n seen) check(t *testing.T, least int) {
	t.Helper()
	for _, what := range []string{"no Out", "1 to 63 Outs", "more Outs", "buckets", "more buckets", "too deep"} {
		if n[what] < least {
			t.Errorf("%s: %d times alone", what, n[what])
		}
	}
}

// P12.1 to P12.3: many packets, through many entries and groups, go as the words say.
func TestManyPacketsGoAsTheWordsSay(t *testing.T) {
	r := rand.New(rand.NewSource(12))
	runs, acts, took := seen{}, seen{}, 0
	for range 300 {
		x := anyParts(t, r)
		before := state(x)
		again := x
		x.Meters, again.Meters = anyMeters(r)
		for range 12 {
			s, pick := anySeen(r), anyPick(r)
			ahead := left(x.Meters)
			got, m := Run(x, s, pick), modelRun(again, s, pick)
			checkOuts(t, "Run", got, m.outs())
			checkFollows(t, x, s, got)
			runs.note(m)
			if !slices.Equal(left(x.Meters), ahead) {
				took++
			}
			l := wildActions(r, len(x.Groups.List()))
			got, behind := Act(x, s, l, pick)
			m, want := modelAct(again, s, l, pick)
			checkOuts(t, "Act", got, m.outs())
			checkFollows(t, x, s, got)
			acts.note(m)
			if behind != want || !slices.Equal(left(x.Meters), left(again.Meters)) {
				t.Errorf("%+v, not %+v; meters %v, not %v", behind, want, left(x.Meters), left(again.Meters))
			}
		}
		if now := state(x); now != before {
			t.Errorf("Flows and Groups are %s, not %s", now, before)
		}
		if t.Failed() {
			return
		}
	}
	runs.check(t, 40)
	acts.check(t, 40)
	if took < 100 {
		t.Errorf("meters took %d times alone", took)
	}
}

// P12.3: it ends, where there are far more ways through the groups than could be gone.
func TestItEnds(t *testing.T) {
	l := []api.Group{full(1, 16, output(4))}
	for id := 2; id <= 64; id++ {
		l = append(l, full(id, 16, to(uint64(id-1)), output(2)))
	}
	x := withGroups(t, l...)
	var entries []api.Entry
	for number := range 8 {
		goTo := (number + 1) % 8 // of the last one none
		entries = append(entries, api.Entry{Table: number, Apply: many(32, to(64)), Write: list(to(8)), Goto: goTo})
	}
	x.Flows = flows(t, entries...)
	checkRun(t, "Run", x, plain(1))
	for _, id := range []uint64{8, 9, 64} {
		checkAct(t, "Act", x, plain(1), many(20000, to(id)), plain(1))
	}
}
