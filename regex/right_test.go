package regex

import (
	"math/rand"
	"slices"
	"testing"

	"drover/api"
)

func TestRightOfEachKind(t *testing.T) { // P17.1
	any := api.ExprNode{Kind: api.Any}
	for what, e := range map[string]api.Expr{
		"nothing":                   of(api.ExprNode{Kind: api.Nothing}),
		"empty":                     of(api.ExprNode{Kind: api.Empty}),
		"any":                       of(any),
		"the first switch":          of(leafOf(1)),
		"the last switch":           of(leafOf(65535)),
		"a star":                    of(any, starOf(0)),
		"a cat":                     of(any, leafOf(1), catOf(0, 1)),
		"a cat of the same":         of(any, catOf(0, 0)),
		"an alt":                    of(any, leafOf(1), altOfPlaces(0, 1)),
		"an alt of three":           of(any, leafOf(1), leafOf(2), altOfPlaces(1, 2), altOfPlaces(0, 3)),
		"an alt with empty":         of(api.ExprNode{Kind: api.Empty}, any, altOfPlaces(0, 1)),
		"a star of a cat of a star": of(any, starOf(0), catOf(1, 0), starOf(2)),
		"doubled, of the size 190":  of(doubled(13)...),
	} {
		checkRight(t, what, e, true)
	}
}

func TestNotRight(t *testing.T) { // P17.1: each way in which an expression is none
	for what, e := range wrongs {
		checkRight(t, what, e, false)
	}
	any, no, empty := api.ExprNode{Kind: api.Any}, api.ExprNode{Kind: api.Nothing}, api.ExprNode{Kind: api.Empty}
	for what, e := range map[string]api.Expr{
		"a list without nodes":                   {Nodes: []api.ExprNode{}},
		"nothing with a switch":                  of(api.ExprNode{Kind: api.Nothing, Switch: 1}),
		"empty with an A":                        of(any, api.ExprNode{Kind: api.Empty, A: 1}),
		"any with a B":                           of(api.ExprNode{Kind: api.Any, B: 1}),
		"any with a B below 0":                   of(api.ExprNode{Kind: api.Any, B: -1}),
		"one with an A":                          of(api.ExprNode{Kind: api.One, Switch: 1, A: 1}),
		"one with a B":                           of(api.ExprNode{Kind: api.One, Switch: 1, B: 1}),
		"a star with a switch":                   of(any, api.ExprNode{Kind: api.Star, Switch: 1}),
		"a star with a B":                        of(leafOf(1), any, catOf(0, 1), api.ExprNode{Kind: api.Star, A: 2, B: 1}),
		"a cat with a switch":                    of(any, api.ExprNode{Kind: api.Cat, Switch: 1}),
		"an alt with a switch":                   of(any, leafOf(1), api.ExprNode{Kind: api.Alt, A: 0, B: 1, Switch: 1}),
		"a star of itself":                       of(starOf(0)),
		"a star of itself, behind another one":   of(any, starOf(1)),
		"a star of a place below 0":              of(any, starOf(-1)),
		"a cat of itself":                        of(any, catOf(1, 0)),
		"a cat with itself":                      of(any, catOf(0, 1)),
		"a cat of a place below 0":               of(any, catOf(-1, 0)),
		"a cat with a place below 0":             of(any, catOf(0, -1)),
		"a cat of a later place":                 of(any, catOf(2, 0), any),
		"an alt of itself":                       of(any, altOfPlaces(1, 0)),
		"an alt with itself":                     of(any, altOfPlaces(0, 1)),
		"an alt with what is not there":          of(any, altOfPlaces(0, 7)),
		"a star twice":                           of(leafOf(1), starOf(0), starOf(0), catOf(1, 2)),
		"a cat twice":                            of(leafOf(1), catOf(0, 0), catOf(0, 0), starOf(1), catOf(3, 2)),
		"b finished ahead of a":                  of(leafOf(1), any, catOf(1, 0)),
		"the a of a part finished ahead of it":   of(leafOf(2), leafOf(1), starOf(1), catOf(2, 0)),
		"one that nothing leads to, at first":    of(any, leafOf(1)),
		"one that nothing leads to, in between":  of(any, leafOf(1), starOf(0)),
		"the whole isn't the last one":           of(any, starOf(0), leafOf(1)),
		"a star of nothing":                      of(no, starOf(0)),
		"a star of empty":                        of(empty, starOf(0)),
		"a star of a star":                       of(any, starOf(0), starOf(1)),
		"a cat of nothing":                       of(no, any, catOf(0, 1)),
		"a cat with nothing":                     of(any, no, catOf(0, 1)),
		"a cat of empty":                         of(empty, any, catOf(0, 1)),
		"a cat with empty":                       of(any, empty, catOf(0, 1)),
		"a cat of a cat":                         of(any, leafOf(1), catOf(0, 1), leafOf(2), catOf(2, 3)),
		"an alt of nothing":                      of(no, any, altOfPlaces(0, 1)),
		"an alt with nothing":                    of(any, no, altOfPlaces(0, 1)),
		"an alt of the same":                     of(any, altOfPlaces(0, 0)),
		"an alt in another order":                of(leafOf(2), leafOf(1), altOfPlaces(0, 1)),
		"an alt of an alt":                       of(any, leafOf(1), altOfPlaces(0, 1), leafOf(2), altOfPlaces(2, 3)),
		"an alt of three in another order":       of(leafOf(1), any, leafOf(2), altOfPlaces(1, 2), altOfPlaces(0, 3)),
		"an alt of what is in the other one":     of(any, leafOf(1), altOfPlaces(0, 1), altOfPlaces(0, 2)),
		"what is not in one form, within others": of(any, starOf(0), starOf(1), leafOf(1), catOf(2, 3)),
		"doubled, of the size 381":               of(doubled(14)...),
		"nodes above MaxExpr":                    {Nodes: slices.Repeat([]api.ExprNode{any}, 301)},
		"a great many nodes":                     of(doubled(1 << 20)...),
	} {
		checkRight(t, what, e, false)
	}
	for _, n := range wide {
		checkRight(t, "of no switch", of(leafOf(n)), false)
		checkRight(t, "of no switch, within others", of(any, leafOf(n), catOf(0, 1)), false)
		checkRight(t, "a star of what is not there", of(any, starOf(n)), n == 0)
		checkRight(t, "a cat of what is not there", of(any, catOf(n, 0)), n == 0)
		checkRight(t, "a cat with what is not there", of(any, catOf(0, n)), n == 0)
		checkRight(t, "an alt of what is not there", of(any, leafOf(1), altOfPlaces(n, 1)), n == 0)
		checkRight(t, "an alt with what is not there", of(any, leafOf(1), altOfPlaces(0, n)), false)
		checkRight(t, "of no kind", of(api.ExprNode{Kind: n}), false)
	}
	for _, kind := range []int{-1, 0, 8, 9, 256 + api.Any} {
		checkRight(t, "of no kind", of(api.ExprNode{Kind: kind}), false)
		checkRight(t, "with what is of no kind", of(any, api.ExprNode{Kind: kind}, catOf(0, 1)), false)
		checkRight(t, "of no kind, behind others", of(any, leafOf(1), api.ExprNode{Kind: kind, A: 0, B: 1}), false)
	}
}

func TestRightSizes(t *testing.T) { // P17.1: at most MaxExpr, however few nodes
	for size := 290; size <= 310; size++ {
		x := sized(size)
		checkRight(t, "of the size", of(rawNodes(x)...), size <= 300)
		x = star(sized(size - 1))
		checkRight(t, "of the size", of(rawNodes(x)...), size <= 300)
	}
	for n := 1; n <= 300; n++ {
		checkRight(t, "doubled", of(doubled(n)...), n <= 13)
	}
	// Two of 2 to the power of 32 would be nothing, if sizes went round.
	for _, n := range []int{64, 65, 128, 129, 130} {
		checkRight(t, "doubled", of(doubled(n)...), false)
	}
}

// smallNodes are all that there may be behind so many others, and some that there may not be.
func smallNodes(ahead int) []api.ExprNode {
	var l []api.ExprNode
	for kind := 0; kind <= 8; kind++ {
		for number := range 3 {
			for a := -1; a <= ahead; a++ {
				for b := -1; b <= ahead; b++ {
					l = append(l, api.ExprNode{Kind: kind, Switch: number, A: a, B: b})
				}
			}
		}
	}
	return l
}

func TestRightOfAllSmallOnes(t *testing.T) { // P17.1
	rights := 0
	for _, first := range smallNodes(0) {
		checkRight(t, "one node", of(first), modelRight(of(first)))
		for _, second := range smallNodes(1) {
			e := of(first, second)
			want := modelRight(e)
			checkRight(t, "two nodes", e, want)
			if want {
				rights++
			}
		}
	}
	// Of any, one(1) and one(2) the star and the cat with itself.
	if rights != 6 {
		t.Errorf("%d of two nodes are right", rights)
	}
}

// spoilt is e with one thing changed.
func spoilt(r *rand.Rand, e api.Expr) api.Expr {
	e = cloneExpr(e)
	i, k := r.Intn(len(e.Nodes)), r.Intn(len(e.Nodes))
	n := &e.Nodes[i]
	switch r.Intn(8) {
	case 0:
		n.Kind = r.Intn(9)
	case 1:
		n.Switch = r.Intn(4)
	case 2:
		n.A = r.Intn(len(e.Nodes)+2) - 1
	case 3:
		n.B = r.Intn(len(e.Nodes)+2) - 1
	case 4:
		n.A, n.B = n.B, n.A
	case 5:
		e.Nodes[i], e.Nodes[k] = e.Nodes[k], e.Nodes[i]
	case 6:
		e.Nodes = e.Nodes[:i]
	case 7:
		e.Nodes = slices.Insert(e.Nodes, i, e.Nodes[k])
	}
	return e
}

func TestRightOfDrawnOnes(t *testing.T) { // P17.1
	r := rand.New(rand.NewSource(4))
	var rights, wrong int
	for range 20000 {
		e := written(anyFormed(r, 1+r.Intn(12)))
		checkRight(t, "written", e, true)
		e = spoilt(r, e)
		want := modelRight(e)
		checkRight(t, "spoilt", e, want)
		if want {
			rights++
		} else {
			wrong++
		}
	}
	if rights < 2000 || wrong < 8000 {
		t.Errorf("%d right, %d not", rights, wrong)
	}
}

func TestRightOfRawTerms(t *testing.T) { // P17.1: the writing of a term that may not be in one form
	r := rand.New(rand.NewSource(5))
	var rights, wrong int
	for range 10000 {
		x := anyTree(r, 1+r.Intn(8))
		want := inForm(x)
		checkRight(t, "of a term", of(rawNodes(x)...), want)
		if want {
			rights++
		} else {
			wrong++
		}
	}
	if rights < 2000 || wrong < 2000 {
		t.Errorf("%d right, %d not", rights, wrong)
	}
}
