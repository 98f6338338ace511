package pred

import (
	"math/rand"
	"slices"
	"testing"

	"drover/api"
)

// checkDisjoint is of both orders.
func checkDisjoint(t *testing.T, p, q api.Pred, want bool, e api.Errno) {
	t.Helper()
	for _, c := range [][2]api.Pred{{p, q}, {q, p}} {
		if got, err := Disjoint(c[0], c[1]); got != want || err != e {
			t.Errorf("Disjoint(%v, %v): %v %v, not %v %v", c[0], c[1], got, err, want, e)
		}
	}
}

func TestDisjoint(t *testing.T) { // P16.5
	one, two := Is(port(1, 1)), Is(port(2, 2))
	every, never := of(node(api.Every)), of(node(api.Never))
	checkDisjoint(t, one, two, false, api.OK)
	checkDisjoint(t, one, one, false, api.OK)
	checkDisjoint(t, one, Not(one), true, api.OK)
	checkDisjoint(t, one, Is(port(0, 3)), true, api.OK)
	checkDisjoint(t, one, Is(at(api.Sport, 0, 1)), false, api.OK)
	checkDisjoint(t, every, every, false, api.OK)
	checkDisjoint(t, every, one, false, api.OK)
	checkDisjoint(t, every, never, true, api.OK)
	checkDisjoint(t, never, never, true, api.OK)
	checkDisjoint(t, And(one, Not(one)), every, true, api.OK)
	checkDisjoint(t, And(), Or(), true, api.OK)
	checkDisjoint(t, Or(one, two), Not(Or(two, one)), true, api.OK)
	checkDisjoint(t, Or(one, two), Not(And(two, one)), false, api.OK)
	checkDisjoint(t, Is(port(0, full)), Is(port(1<<63, full)), true, api.OK)
	checkDisjoint(t, Is(port(0, 0)), one, false, api.OK)
	// Nodes that the last one does not lead to are not asked.
	checkDisjoint(t, of(leaf(port(1, 1)), leaf(port(0, 1))), one, true, api.OK)
}

func TestDisjointOfOneOfMany(t *testing.T) { // P16.5: just one cube of each meets
	for a := range 12 {
		for b := range 12 {
			var p, q []api.Pred
			for i := range uint64(12) {
				p, q = append(p, Is(port(i, full))), append(q, Is(port(100+i, full)))
			}
			checkDisjoint(t, Or(p...), Or(q...), true, api.OK)
			p[a], q[b] = Is(port(50, full)), Is(port(50, full))
			checkDisjoint(t, Or(p...), Or(q...), false, api.OK)
		}
	}
	checkDisjoint(t, many(128), Not(many(128)), true, api.OK)
	checkDisjoint(t, many(128), many(128), false, api.OK)
}

func TestErrorsOfDisjoint(t *testing.T) { // P16.5: ErrArg ahead of ErrBig, whichever of the two it is
	one, never := Is(port(1, 1)), of(node(api.Never))
	big := Or(many(128), Is(at(api.Meta, full, full)))
	hidden := of(append(big.Nodes, node(api.Never))...)
	checkCubesError(t, big, api.ErrBig)
	checkCubesError(t, hidden, api.ErrBig)
	for _, wrong := range []api.Pred{{}, of(node(7)), of(node(api.Not, 0)), of(leaf(port(2, 1))), chain(61)} {
		for _, p := range []api.Pred{one, never, big, hidden, wrong, {}} {
			checkDisjoint(t, wrong, p, false, api.ErrArg)
		}
	}
	for _, p := range []api.Pred{one, never, big, hidden, many(128), And(), Or()} {
		checkDisjoint(t, big, p, false, api.ErrBig)
		checkDisjoint(t, hidden, p, false, api.ErrBig)
	}
}

func modelDisjoint(first, second []api.Cube) bool {
	var others []asks
	for _, b := range second {
		others = append(others, asksOf(b...))
	}
	for _, c := range first {
		a := asksOf(c...)
		if slices.ContainsFunc(others, func(b asks) bool { return modelMeets(a, b) }) {
			return false
		}
	}
	return true
}

func TestDisjointIsAsTheWordsSay(t *testing.T) { // P16.5
	r := rand.New(rand.NewSource(165))
	apart, big := 0, 0
	for range 800 {
		p, q := anyWide(r), anyWide(r)
		if r.Intn(3) == 0 && len(p.Nodes) < api.MaxPred {
			q = modelJoin(api.Not, p)
		}
		first, ok := modelCubes(p)
		second, alsoOK := modelCubes(q)
		if !ok || !alsoOK {
			checkDisjoint(t, p, q, false, api.ErrBig)
			big++
			continue
		}
		want := modelDisjoint(first, second)
		checkDisjoint(t, p, q, want, api.OK)
		if want {
			apart++
		}
	}
	if apart < 80 || apart > 700 || big < 10 {
		t.Errorf("%d of 800 are disjoint, and %d are too big", apart, big)
	}
}
