package pred

import (
	"math/rand"
	"slices"
	"testing"

	"drover/api"
)

func TestIs(t *testing.T) { // P16.2
	for _, x := range []api.Test{port(80, 65535), port(0, 0), port(0, 1), at(api.InPort, full, full), at(api.Meta, 1<<63, 1<<63)} {
		checkPred(t, "Is", Is(x), of(leaf(x)))
	}
	for field := -12; field <= 22; field++ {
		want := api.Pred{}
		if field >= 1 && field <= 9 {
			want = of(leaf(at(field, 2, 3)))
		}
		checkPred(t, "Is", Is(at(field, 2, 3)), want)
	}
	for _, field := range wide {
		checkPred(t, "Is", Is(at(field, 0, 1)), api.Pred{})
	}
	for bit := range 64 {
		checkPred(t, "Is", Is(port(1<<bit, full&^(1<<bit))), api.Pred{})
		checkPred(t, "Is", Is(port(1<<bit, 0)), api.Pred{})
		checkPred(t, "Is", Is(port(1<<bit, 1<<bit)), of(leaf(port(1<<bit, 1<<bit))))
	}
	checkPred(t, "Is", Is(api.Test{}), api.Pred{})
}

func TestAndOrNot(t *testing.T) { // P16.2: node by node
	one, two := port(1, 1), port(2, 2)
	every, never := of(node(api.Every)), of(node(api.Never))
	checkPred(t, "And", And(), of(node(api.And)))
	checkPred(t, "Or", Or(), of(node(api.Or)))
	checkPred(t, "And", And([]api.Pred{}...), of(node(api.And)))
	checkPred(t, "And", And(Is(one)), of(leaf(one), node(api.And, 0)))
	checkPred(t, "Or", Or(Is(one)), of(leaf(one), node(api.Or, 0)))
	checkPred(t, "Not", Not(Is(one)), of(leaf(one), node(api.Not, 0)))
	checkPred(t, "Not", Not(Not(Is(one))), of(leaf(one), node(api.Not, 0), node(api.Not, 1)))
	checkPred(t, "Not", Not(every), of(node(api.Every), node(api.Not, 0)))
	checkPred(t, "Not", Not(never), of(node(api.Never), node(api.Not, 0)))
	checkPred(t, "Not", Not(And()), of(node(api.And), node(api.Not, 0)))
	checkPred(t, "And", And(Is(two), Is(one)), of(leaf(two), leaf(one), node(api.And, 0, 1)))
	checkPred(t, "Or", Or(Is(one), Is(one)), of(leaf(one), leaf(one), node(api.Or, 0, 1)))
	checkPred(t, "And", And(And(), Or()), of(node(api.And), node(api.Or), node(api.And, 0, 1)))
	checkPred(t, "Or", Or(Not(Is(one)), every, And(Is(two), never), Is(one)), of(
		leaf(one), node(api.Not, 0),
		node(api.Every),
		leaf(two), node(api.Never), node(api.And, 3, 4),
		leaf(one),
		node(api.Or, 1, 2, 5, 6)))
	odd := of(leaf(one), node(api.Never), node(api.Or, 1, 0, 1), node(api.Every)) // with nodes that the last one does not lead to
	checkPred(t, "And", And(odd, odd), of(
		leaf(one), node(api.Never), node(api.Or, 1, 0, 1), node(api.Every),
		leaf(one), node(api.Never), node(api.Or, 5, 4, 5), node(api.Every),
		node(api.And, 3, 7)))
	checkPred(t, "Not", Not(odd), of(leaf(one), node(api.Never), node(api.Or, 1, 0, 1), node(api.Every), node(api.Not, 3)))
}

func TestAndOrOfManyParts(t *testing.T) { // P16.2: up to MaxParts
	parts := slices.Repeat([]api.Pred{Is(port(1, 1))}, 40)
	for n := range parts {
		and, or := And(parts[:n]...), Or(parts[:n]...)
		checkPred(t, "And", and, modelJoin(api.And, parts[:n]...))
		checkPred(t, "Or", or, modelJoin(api.Or, parts[:n]...))
		want := n + 1
		if n > 12 {
			want = 0
		}
		if len(and.Nodes) != want || len(or.Nodes) != want {
			t.Errorf("of %d parts: %d and %d nodes", n, len(and.Nodes), len(or.Nodes))
		}
	}
}

func TestAndOrNotOfManyNodes(t *testing.T) { // P16.2: up to MaxPred
	for n := 1; n <= 62; n++ {
		want := n + 1
		if n > 59 {
			want = 0
		}
		for _, p := range []api.Pred{And(chain(n)), Or(chain(n)), Not(chain(n))} {
			if len(p.Nodes) != want {
				t.Errorf("of %d nodes: %d", n, len(p.Nodes))
			}
		}
		for m := 1; m <= 60; m++ {
			checkPred(t, "And", And(chain(n), chain(m)), modelJoin(api.And, chain(n), chain(m)))
			checkPred(t, "Or", Or(chain(n), chain(m)), modelJoin(api.Or, chain(n), chain(m)))
		}
	}
	if n := len(And(chain(29), chain(30)).Nodes); n != 60 {
		t.Errorf("%d nodes", n)
	}
	if n := len(Or(chain(30), chain(30)).Nodes); n != 0 {
		t.Errorf("%d nodes", n)
	}
	twelve := slices.Repeat([]api.Pred{chain(4)}, 12)
	twelve[5] = chain(15)
	if n := len(And(twelve...).Nodes); n != 60 {
		t.Errorf("%d nodes", n)
	}
	twelve[5] = chain(16)
	if n := len(Or(twelve...).Nodes); n != 0 {
		t.Errorf("%d nodes", n)
	}
}

func TestAndOrOfPartsThatAreNotRight(t *testing.T) { // P16.2: wherever they stand
	good := Is(port(1, 1))
	for _, wrong := range []api.Pred{{}, of(api.PredNode{}), of(node(7)), of(leaf(port(2, 1))), of(node(api.Not, 0)), of(node(api.And, 1)), of(node(api.Every, 0)), chain(61)} {
		for n := 1; n <= 13; n++ {
			for place := range n {
				parts := slices.Repeat([]api.Pred{good}, n)
				parts[place] = wrong
				checkPred(t, "And", And(parts...), api.Pred{})
				checkPred(t, "Or", Or(parts...), api.Pred{})
			}
		}
		checkPred(t, "Not", Not(wrong), api.Pred{})
	}
	// The parts would be right where they come to stand, but are not where they stand.
	late := of(node(api.Not, 1), node(api.Every))
	checkPred(t, "And", And(good, late), api.Pred{})
	early := of(node(api.Not, -1))
	checkPred(t, "Or", Or(good, early), api.Pred{})
}

func TestAndOrNotAreAsTheWordsSay(t *testing.T) { // P16.2
	r := rand.New(rand.NewSource(162))
	zeros := 0
	for range 5000 {
		spots := someSpots(r, 1+r.Intn(5))
		var parts []api.Pred
		for range r.Intn(8) {
			p := anyPred(r, spots, 16, 12)
			if r.Intn(20) == 0 {
				p = spoiled(r, p)
			}
			parts = append(parts, p)
		}
		want := modelJoin(api.And, parts...)
		checkPred(t, "And", And(parts...), want)
		checkPred(t, "Or", Or(parts...), modelJoin(api.Or, parts...))
		if len(parts) > 0 {
			checkPred(t, "Not", Not(parts[0]), modelJoin(api.Not, parts[0]))
		}
		if len(want.Nodes) == 0 {
			zeros++
		}
	}
	if zeros < 500 || zeros > 4500 {
		t.Errorf("%d of 5000 are the zero predicate", zeros)
	}
}

func TestPartsStay(t *testing.T) { // R2: nor is what stands behind their lengths written into
	nodes := append(chain(4).Nodes, node(api.And, 0, 1, 2), node(api.Or, 3, 2, 4), leaf(port(0, 0)), node(7, 9))
	for i := range nodes {
		subs := append(nodes[i].Subs, 88, 99)
		nodes[i].Subs = subs[:len(subs)-2]
	}
	parts := []api.Pred{of(nodes[:1]...), of(nodes[:6]...), of(nodes...), of(nodes[:7]...), of(nodes[:5]...)}
	want := make([]api.Pred, len(parts))
	for i, p := range parts {
		want[i] = clonePred(p)
	}
	for n := range len(parts) + 1 {
		And(parts[:n]...)
		Or(parts[:n]...)
		And(slices.Delete(slices.Clone(parts[:n]), min(n, 2), min(n, 3))...)
		Or(slices.Delete(slices.Clone(parts[:n]), min(n, 2), min(n, 3))...)
	}
	for i, p := range parts {
		Not(p)
		Right(p)
		Eval(p, nil)
		Cubes(p)
		Disjoint(p, parts[0])
		checkPred(t, "a part", p, want[i])
	}
	for _, n := range nodes {
		if behind := n.Subs[len(n.Subs) : len(n.Subs)+2]; !slices.Equal(behind, []int{88, 99}) {
			t.Errorf("behind %v: %v", n.Subs, behind)
		}
	}
}

func TestBuiltPredsAreTheCallers(t *testing.T) { // R2: neither the parts nor another answer is in them
	p, q := Or(Is(port(1, 1)), Not(Is(port(2, 2)))), And(Is(port(1, 1)), Is(port(4, 4)), Or())
	build := func() []api.Pred {
		return []api.Pred{Is(port(1, 1)), And(p, q), Or(p, q), Not(p), And(p), Or(q, q), And(), p, q}
	}
	l, want := build(), build()
	for i := range want {
		want[i] = clonePred(want[i])
	}
	for i := range l {
		spoilPred(l[i])
		for k := i + 1; k < len(l); k++ {
			checkPred(t, "another answer", l[k], want[k])
		}
	}
}

func TestListsOfABuiltPredShareNothing(t *testing.T) { // R2: within one answer
	part := Or(Is(port(1, 1)), And(), Not(Is(port(2, 2))))
	for place := range And(part, part).Nodes {
		p := And(part, part)
		want := clonePred(p)
		subs := p.Nodes[place].Subs
		subs = subs[:cap(subs)]
		for i := range subs {
			subs[i] = 77
		}
		p.Nodes[place].Subs, want.Nodes[place].Subs = nil, nil
		checkPred(t, "the other nodes", p, want)
	}
}

func TestMillionsOfParts(t *testing.T) { // R1, Limits
	parts := slices.Repeat([]api.Pred{chain(60)}, 2000000)
	checkPred(t, "And", And(parts...), api.Pred{})
	checkPred(t, "Or", Or(parts...), api.Pred{})
	checkRight(t, of(slices.Repeat([]api.PredNode{node(api.Every)}, 1000000)...), false)
	checkRight(t, of(leaf(port(1, 1)), node(api.And, make([]int, 3000000)...)), false)
	if Whole(slices.Repeat(api.Cube{port(1, 1)}, 1000000)) {
		t.Error("a cube of a million tests")
	}
	checkEval(t, of(leaf(port(1, 1))), slices.Repeat([]uint64{1}, 3000000), true)
}
