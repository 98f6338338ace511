package pred

import (
	"math/rand"
	"slices"
	"testing"

	"drover/api"
)

var kinds = []int{api.Every, api.Never, api.Is, api.And, api.Or, api.Not}

// checkRight holds Right of p, and of what is not right all the other calls too.
func checkRight(t *testing.T, p api.Pred, want bool) {
	t.Helper()
	if got := Right(p); got != want || modelRight(p) != want {
		t.Errorf("Right(%v): %v, and the model %v", p, got, modelRight(p))
	}
	if want {
		return
	}
	good := of(node(api.Every))
	if Eval(p, nil) || Eval(p, make([]uint64, 10)) || Eval(p, []uint64{1, 1, 1, 1, 1, 1, 1, 1, 1, 1}) {
		t.Errorf("Eval(%v): true", p)
	}
	for _, q := range []api.Pred{And(p), Or(p), Not(p), And(good, p), Or(good, p), And(p, good), Or(p, good), And(good, p, good), Or(p, p)} {
		checkPred(t, "of what is not right", q, api.Pred{})
	}
	if l, e := Cubes(p); len(l) != 0 || e != api.ErrArg {
		t.Errorf("Cubes(%v): %v %v", p, l, e)
	}
	for _, c := range [][2]api.Pred{{p, good}, {good, p}, {p, p}, {p, of(node(api.Never))}} {
		if ok, e := Disjoint(c[0], c[1]); ok || e != api.ErrArg {
			t.Errorf("Disjoint(%v, %v): %v %v", c[0], c[1], ok, e)
		}
	}
}

// checkNode is about a node, by itself and behind and ahead of others, which it does not lead to.
func checkNode(t *testing.T, n api.PredNode, want bool) {
	t.Helper()
	checkRight(t, of(n), want)
	checkRight(t, of(n, node(api.Every)), want)
	checkRight(t, of(n, node(api.Every), node(api.Not, 1)), want)
}

// checkThird is about a node at place 2.
func checkThird(t *testing.T, n api.PredNode, want bool) {
	t.Helper()
	first := []api.PredNode{leaf(port(1, 1)), node(api.Not, 0)}
	checkRight(t, of(append(first, n)...), want)
	checkRight(t, of(append(first, n, node(api.And, 0, 1), leaf(port(0, 0)))...), want)
}

func TestRightOfNodes(t *testing.T) { // P16.1: 1 to MaxPred
	checkRight(t, api.Pred{}, false)
	checkRight(t, api.Pred{Nodes: []api.PredNode{}}, false)
	checkRight(t, api.Pred{Nodes: make([]api.PredNode, 0, 9)}, false)
	for n := 1; n <= 60; n++ {
		checkRight(t, chain(n), true)
	}
	for _, n := range []int{61, 62, 64, 120, 256, 1000} {
		checkRight(t, chain(n), false)
	}
	checkRight(t, of(slices.Repeat([]api.PredNode{node(api.Every)}, 60)...), true)
	checkRight(t, of(slices.Repeat([]api.PredNode{node(api.Every)}, 61)...), false)
}

func TestRightOfKinds(t *testing.T) { // P16.1
	for _, kind := range kinds {
		want := kind != api.Is && kind != api.Not
		checkNode(t, node(kind), want)
	}
	checkNode(t, leaf(port(1, 1)), true)
	checkThird(t, node(api.Not, 1), true)
	for _, kind := range append([]int{0, 7, 8}, wide...) {
		checkNode(t, node(kind), false)
		checkNode(t, api.PredNode{Kind: kind, Test: port(1, 1)}, false)
		checkThird(t, node(kind, 1), false)
		checkThird(t, node(kind, 0, 1), false)
	}
	checkNode(t, api.PredNode{}, false)
}

func TestRightOfFields(t *testing.T) { // P16.1: InPort to Dport
	for field := api.InPort; field <= api.Dport; field++ {
		for _, mask := range []uint64{0, 1, 1 << 63, full} {
			checkNode(t, leaf(at(field, mask, mask)), true)
			checkNode(t, leaf(at(field, 0, mask)), true)
		}
	}
	for _, field := range append([]int{0, 10, 11, -9}, wide...) {
		for _, mask := range []uint64{0, 1, full} {
			checkNode(t, leaf(at(field, 0, mask)), false)
			checkNode(t, leaf(at(field, mask, mask)), false)
			checkThird(t, leaf(at(field, 0, mask)), false)
		}
	}
}

func TestRightOfValues(t *testing.T) { // P16.1: no bit beside the Mask
	for bit := range 64 {
		one := uint64(1) << bit
		checkNode(t, leaf(port(one, one)), true)
		checkNode(t, leaf(port(one, full)), true)
		checkNode(t, leaf(port(full&^one, full)), true)
		checkNode(t, leaf(port(one, 0)), false)
		checkNode(t, leaf(port(one, full&^one)), false)
		checkNode(t, leaf(port(full, full&^one)), false)
		checkThird(t, leaf(at(api.InPort, one, full&^one)), false)
	}
}

func TestRightOfTestsOfNoIs(t *testing.T) { // P16.1: the zero one
	for _, x := range []api.Test{port(0, 0), port(1, 1), at(0, 1, 0), at(0, 0, 1), at(0, 1, 1), at(0, 1<<63, 0), at(0, 0, 1<<63), at(-1, 0, 0), at(1, 0, 0)} {
		for _, kind := range kinds {
			subs := map[int][]int{api.Not: {1}, api.And: {0, 1}, api.Or: {0}}[kind]
			n := api.PredNode{Kind: kind, Test: x, Subs: subs}
			checkThird(t, n, kind == api.Is && x.Field == api.Dport || kind == api.Is && x.Field == api.InPort)
			n.Test = api.Test{}
			checkThird(t, n, kind != api.Is)
		}
	}
}

func TestRightOfSubs(t *testing.T) { // P16.1: how many
	for n := range 30 {
		subs := make([]int, n)
		checkThird(t, node(api.Every, subs...), n == 0)
		checkThird(t, node(api.Never, subs...), n == 0)
		checkThird(t, node(api.Not, subs...), n == 1)
		checkThird(t, node(api.And, subs...), n <= 12)
		checkThird(t, node(api.Or, subs...), n <= 12)
		checkThird(t, api.PredNode{Kind: api.Is, Test: port(1, 1), Subs: subs}, n == 0)
	}
}

func TestRightOfPlaces(t *testing.T) { // P16.1: from 0 to below its own
	for _, sub := range append([]int{0, 1, 2, 3, 4, 5, 59, 60}, wide...) {
		want := sub == 0 || sub == 1
		checkThird(t, node(api.Not, sub), want)
		for _, kind := range []int{api.And, api.Or} {
			checkThird(t, node(kind, sub), want)
			checkThird(t, node(kind, sub, 0), want)
			checkThird(t, node(kind, 1, sub), want)
			checkThird(t, node(kind, 0, 1, 1, 0, 1, sub, 1, 0, 0, 0, 1, 1), want)
			checkThird(t, node(kind, 0, 1, 1, 0, 1, 0, 1, 0, 0, 0, 1, sub), want)
		}
	}
	for _, kind := range []int{api.And, api.Or, api.Not} {
		checkRight(t, of(node(kind, 0)), false)
		checkRight(t, of(node(kind, 0), node(api.Every)), false)
		checkRight(t, of(node(kind, 1), node(api.Every)), false)
		checkRight(t, of(node(kind, -1), node(api.Every)), false)
	}
}

func TestRightOfOneOfMany(t *testing.T) { // P16.1: of each node
	for place := range 60 {
		p := chain(60)
		p.Nodes[place] = leaf(port(2, 1))
		checkRight(t, p, false)
		p.Nodes[place] = node(api.Not, place)
		checkRight(t, p, false)
		p.Nodes[place] = node(api.Or)
		checkRight(t, p, true)
	}
}

// spoiled is p with one thing in it another one.
func spoiled(r *rand.Rand, p api.Pred) api.Pred {
	p = clonePred(p)
	n := &p.Nodes[r.Intn(len(p.Nodes))]
	number := append([]int{r.Intn(12), r.Intn(60)}, wide...)[r.Intn(2+len(wide))]
	switch r.Intn(6) {
	case 0:
		n.Kind = number
	case 1:
		n.Test.Field = number
	case 2:
		n.Test.Value ^= 1 << r.Intn(64)
	case 3:
		n.Test.Mask ^= 1 << r.Intn(64)
	case 4:
		n.Subs = append(n.Subs, number)
	default:
		if len(n.Subs) > 0 {
			n.Subs[r.Intn(len(n.Subs))] = number
		}
	}
	return p
}

func TestRightIsAsTheWordsSay(t *testing.T) { // P16.1
	r := rand.New(rand.NewSource(161))
	rights := 0
	for range 20000 {
		p := anyPred(r, someSpots(r, 1+r.Intn(5)), 14, 4)
		checkRight(t, p, true)
		p = spoiled(r, p)
		checkRight(t, p, modelRight(p))
		if modelRight(p) {
			rights++
		}
	}
	if rights < 1000 || rights > 19000 {
		t.Errorf("%d of 20000 are right", rights)
	}
}

func checkEval(t *testing.T, p api.Pred, vals []uint64, want bool) {
	t.Helper()
	if got := Eval(p, vals); got != want {
		t.Errorf("Eval(%v, %x): %v", p, vals, got)
	}
}

func TestEvalOfKinds(t *testing.T) { // P16.1
	vals := [][]uint64{nil, {}, make([]uint64, 10), slices.Repeat([]uint64{full}, 10)}
	one, none := leaf(port(0, 0)), node(api.Never)
	for _, v := range vals {
		checkEval(t, of(node(api.Every)), v, true)
		checkEval(t, of(node(api.Never)), v, false)
		checkEval(t, of(one), v, true)
		checkEval(t, of(node(api.And)), v, true)
		checkEval(t, of(node(api.Or)), v, false)
		checkEval(t, of(one, node(api.Not, 0)), v, false)
		checkEval(t, of(none, node(api.Not, 0)), v, true)
		for n := range 1 << 4 {
			p := of(one, none, node(api.And), node(api.Or))
			for i := range 4 {
				for _, whole := range []int{2, 3} {
					p.Nodes[whole].Subs = append(p.Nodes[whole].Subs, 1-n>>i&1)
				}
				// Of the last i+1 bits: all of them, and one of them.
				bits := n & (1<<(i+1) - 1)
				checkEval(t, p, v, bits != 0)
				checkEval(t, of(p.Nodes[:3]...), v, bits == 1<<(i+1)-1)
			}
		}
	}
}

func TestEvalOfTheLast(t *testing.T) { // P16.1: what stands ahead of it does not count by itself
	for n := 1; n <= 60; n++ {
		checkEval(t, chain(n), []uint64{api.Dport: 1}, n%2 == 1)
		checkEval(t, chain(n), []uint64{api.Dport: 2}, n%2 == 0)
	}
	checkEval(t, of(node(api.Never), node(api.Every)), nil, true)
	checkEval(t, of(node(api.Every), node(api.Never)), nil, false)
	checkEval(t, of(node(api.Every), node(api.Never), node(api.Or, 0, 1), node(api.And, 1)), nil, false)
}

func TestEvalOfTests(t *testing.T) { // P16.1: the value, under the Mask
	for field := api.InPort; field <= api.Dport; field++ {
		for bit := range 64 {
			one := uint64(1) << bit
			set, unset := of(leaf(at(field, one, one))), of(leaf(at(field, 0, one)))
			exact := of(leaf(at(field, one, full)))
			vals := make([]uint64, 10)
			for other := range vals {
				for _, v := range []uint64{0, one, full, full &^ one} {
					clear(vals)
					vals[other] = v
					is := other == field && v&one != 0
					checkEval(t, set, vals, is)
					checkEval(t, unset, vals, !is)
					checkEval(t, exact, vals, is && v == one)
				}
			}
		}
	}
}

func TestEvalOfFewAndManyValues(t *testing.T) { // P16.1: 0, if there is no such place
	all := slices.Repeat([]uint64{5}, 40)
	for n := range len(all) + 1 {
		for field := api.InPort; field <= api.Dport; field++ {
			checkEval(t, of(leaf(at(field, 5, full))), all[:n], field < n)
			checkEval(t, of(leaf(at(field, 0, full))), all[:n], field >= n)
			checkEval(t, of(leaf(at(field, 0, 1))), all[:n:n], field >= n)
		}
	}
}

func TestEvalOfPartsNamedOften(t *testing.T) { // R1, P16.1: each node is asked, not each way to it
	for _, kind := range []int{api.And, api.Or} {
		p := chain(1)
		for place := 1; place < 60; place++ {
			p.Nodes = append(p.Nodes, node(kind, slices.Repeat([]int{place - 1}, 12)...))
		}
		checkEval(t, p, []uint64{api.Dport: 1}, true)
		checkEval(t, p, []uint64{api.Dport: 2}, false)
	}
}

func TestEvalIsAsTheWordsSay(t *testing.T) { // P16.1
	r := rand.New(rand.NewSource(1610))
	trues := 0
	for range 4000 {
		spots := someSpots(r, 1+r.Intn(5))
		p := anyPred(r, spots, 14, 4)
		for n := range 1 << len(spots) {
			vals := valuesOf(r, spots, n)
			want := modelEval(p, vals)
			checkEval(t, p, vals, want)
			checkEval(t, p, append(vals, 1, 2, 3), want)
			cut := r.Intn(11)
			checkEval(t, p, vals[:cut], modelEval(p, vals[:cut]))
			if want {
				trues++
			}
		}
	}
	if trues < 10000 {
		t.Errorf("only %d are true", trues)
	}
}
