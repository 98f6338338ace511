package regex

import (
	"math"
	"math/rand"
	"slices"
	"strings"
	"testing"

	"drover/api"
)

// wide are numbers that are no switch's, and may go wrong where one counts with them.
var wide = []int{math.MinInt, math.MinInt + 1, math.MinInt32, -65535, -300, -2, -1, 0, 65536, 65537, 1 << 17, math.MaxInt32, 1 << 32, 1<<32 + 1, math.MaxInt - 1, math.MaxInt}

// wrongs are expressions that aren't right, each in its way.
var wrongs = map[string]api.Expr{
	"no nodes":          {},
	"no kind":           of(api.ExprNode{}),
	"a Switch":          of(api.ExprNode{Kind: api.Any, Switch: 1}),
	"no switch":         of(leafOf(1), api.ExprNode{Kind: api.One}, catOf(0, 1)),
	"a later place":     of(starOf(1), leafOf(1)),
	"a term twice":      of(leafOf(1), leafOf(1), catOf(0, 1)),
	"another order":     of(leafOf(2), leafOf(1), catOf(1, 0)),
	"not led to":        of(leafOf(1), leafOf(2)),
	"not in one form":   of(leafOf(1), starOf(0), starOf(1)),
	"greater than that": of(doubled(300)...),
}

func of(nodes ...api.ExprNode) api.Expr { return api.Expr{Nodes: nodes} }

func leafOf(n int) api.ExprNode { return api.ExprNode{Kind: api.One, Switch: n} }

func starOf(a int) api.ExprNode { return api.ExprNode{Kind: api.Star, A: a} }

func catOf(a, b int) api.ExprNode { return api.ExprNode{Kind: api.Cat, A: a, B: b} }

func altOfPlaces(a, b int) api.ExprNode { return api.ExprNode{Kind: api.Alt, A: a, B: b} }

// doubled are so many nodes, of which each second one is a cat of the one ahead and itself.
func doubled(n int) []api.ExprNode {
	l := []api.ExprNode{leafOf(1)}
	for len(l) < n {
		last := len(l) - 1
		l = append(l, catOf(last, last), starOf(last+1))
	}
	return l[:n]
}

// row is a cat of so many ones, of the size 2n - 1.
func row(n int) *tree {
	x := one(1)
	for range n - 1 {
		x = cat(one(1), x)
	}
	return x
}

// sized is a term in one form of this size, from 1 on, which is no star.
func sized(size int) *tree {
	switch {
	case size%2 == 1:
		return row((size + 1) / 2)
	case size == 2:
		return nil
	}
	return cat(star(one(1)), row((size-2)/2))
}

// many is an alt of so many ones, of the size 2n - 1.
func many(n int) *tree {
	x := one(n)
	for i := n - 1; i > 0; i-- {
		x = alt(one(i), x)
	}
	return x
}

func cloneExpr(e api.Expr) api.Expr { return api.Expr{Nodes: slices.Clone(e.Nodes)} }

func sameExpr(a, b api.Expr) bool { return slices.Equal(a.Nodes, b.Nodes) }

// spoil writes over all of an expression, and behind its length.
func spoil(e api.Expr) {
	nodes := e.Nodes[:cap(e.Nodes)]
	for i := range nodes {
		nodes[i] = api.ExprNode{Kind: 77, Switch: 77, A: 77, B: 77}
	}
}

func checkExpr(t *testing.T, what string, got, want api.Expr) {
	t.Helper()
	if !sameExpr(got, want) {
		t.Errorf("%s: %v, not %v", what, got, want)
	}
}

func checkRight(t *testing.T, what string, e api.Expr, want bool) {
	t.Helper()
	if got := Right(e); got != want {
		t.Errorf("Right(%s), %v: %v", what, e, got)
	}
}

// checkText asks for the writing too: it is that of the term of the text.
func checkText(t *testing.T, what string, e api.Expr, want string) {
	t.Helper()
	if got := Text(e); got != want {
		t.Errorf("%s: %q, not %q", what, got, want)
	}
	x, _ := modelParse(want)
	checkExpr(t, what, e, written(x))
}

func checkParse(t *testing.T, s string, want api.Expr, err api.Errno) {
	t.Helper()
	if e, f := Parse(s); f != err || !sameExpr(e, want) {
		t.Errorf("Parse(%.60q), of %d bytes: %v %v, not %v %v", s, len(s), e, f, want, err)
	}
}

func checkMatch(t *testing.T, e api.Expr, word []int, want bool) {
	t.Helper()
	if got := Match(e, word); got != want {
		t.Errorf("Match(%s, %v): %v", Text(e), word, got)
	}
}

// must is the expression of a text.
func must(t *testing.T, s string) api.Expr {
	t.Helper()
	e, err := Parse(s)
	if err != api.OK || len(e.Nodes) == 0 {
		t.Fatalf("Parse(%q): %v %v", s, e, err)
	}
	return e
}

// words are all of up to so many numbers, each one of these.
func words(most int, numbers ...int) [][]int {
	l := [][]int{nil}
	first := 0
	for range most {
		last := len(l)
		for _, word := range l[first:last] {
			for _, n := range numbers {
				l = append(l, append(slices.Clone(word), n))
			}
		}
		first = last
	}
	return l
}

// anyTree is a term, in one form or not, of up to so many parts.
func anyTree(r *rand.Rand, most int) *tree {
	if most <= 1 {
		return anyLeaf(r)
	}
	first := 1 + r.Intn(most)
	switch r.Intn(6) {
	case 0:
		return star(anyTree(r, most-1))
	case 1, 2, 3:
		return cat(anyTree(r, first), anyTree(r, most-first))
	default:
		return alt(anyTree(r, first), anyTree(r, most-first))
	}
}

func anyLeaf(r *rand.Rand) *tree {
	switch r.Intn(12) {
	case 0:
		return nothing
	case 1:
		return empty
	case 2, 3:
		return dot
	}
	return one(1 + r.Intn(3))
}

// anyFormed is a term in one form.
func anyFormed(r *rand.Rand, most int) *tree { return formed(anyTree(r, most)) }

// build is what the functions make of a term.
func build(x *tree) api.Expr {
	switch x.kind {
	case api.Nothing:
		return Nothing()
	case api.Empty:
		return Empty()
	case api.Any:
		return Any()
	case api.One:
		return One(x.number)
	case api.Star:
		return Star(build(x.a))
	case api.Cat:
		return Cat(build(x.a), build(x.b))
	}
	return Alt(build(x.a), build(x.b))
}

// brackets are so many within one another, with that in them.
func brackets(n int, inner string) string {
	return strings.Repeat("(", n) + inner + strings.Repeat(")", n)
}
