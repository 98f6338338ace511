package regex

import (
	"math/rand"
	"testing"

	"drover/api"
)

func TestLeaves(t *testing.T) { // P17.1
	checkExpr(t, "Nothing", Nothing(), of(api.ExprNode{Kind: 1}))
	checkExpr(t, "Empty", Empty(), of(api.ExprNode{Kind: 2}))
	checkExpr(t, "Any", Any(), of(api.ExprNode{Kind: 3}))
	for _, n := range []int{1, 2, 9, 10, 255, 256, 32767, 32768, 65534, 65535} {
		checkExpr(t, "One", One(n), of(api.ExprNode{Kind: 4, Switch: n}))
	}
	for _, n := range wide {
		checkExpr(t, "One of no switch", One(n), api.Expr{})
	}
}

func TestWritingNodeByNode(t *testing.T) { // P17.1: a is finished first, then b, then the term; what stands in two places stands once
	checkExpr(t, "star", Star(One(5)), of(leafOf(5), starOf(0)))
	checkExpr(t, "cat", Cat(One(2), One(1)), of(leafOf(2), leafOf(1), catOf(0, 1)))
	checkExpr(t, "alt", Alt(One(2), One(1)), of(leafOf(1), leafOf(2), altOfPlaces(0, 1)))
	checkExpr(t, "cat of the same", Cat(One(7), One(7)), of(leafOf(7), catOf(0, 0)))
	three := Cat(One(1), Cat(One(2), One(1)))
	checkExpr(t, "1 2 1", three, of(leafOf(1), leafOf(2), catOf(1, 0), catOf(0, 2)))
	checkExpr(t, "(1 2 1)* 2 1", Cat(Star(three), Cat(One(2), One(1))), of(leafOf(1), leafOf(2), catOf(1, 0), catOf(0, 2), starOf(3), catOf(4, 2)))
	parts := Alt(Star(One(3)), Alt(Cat(One(3), Any()), Any()))
	checkExpr(t, ".|3*|3 .", parts, of(api.ExprNode{Kind: api.Any}, leafOf(3), starOf(1), catOf(1, 0), altOfPlaces(2, 3), altOfPlaces(0, 4)))
	checkExpr(t, "3* (.|3*|3 .)", Cat(Star(One(3)), parts), of(leafOf(3), starOf(0), api.ExprNode{Kind: api.Any}, catOf(0, 2), altOfPlaces(1, 3), altOfPlaces(2, 4), catOf(1, 5)))
	checkExpr(t, "()|1", Alt(One(1), Empty()), of(api.ExprNode{Kind: api.Empty}, leafOf(1), altOfPlaces(0, 1)))
}

func TestStar(t *testing.T) { // P17.1
	checkText(t, "of nothing", Star(Nothing()), "()")
	checkText(t, "of empty", Star(Empty()), "()")
	checkText(t, "of any", Star(Any()), ".*")
	checkText(t, "of a star", Star(Star(One(3))), "3*")
	checkText(t, "of a cat", Star(Cat(Star(One(1)), Star(One(2)))), "(1* 2*)*")
	checkText(t, "of a cat of stars", Star(Cat(Star(One(1)), Star(One(1)))), "(1* 1*)*")
	checkText(t, "of an alt", Star(Alt(One(1), Empty())), "(()|1)*")
	checkText(t, "of an alt of a star", Star(Alt(One(1), Star(One(2)))), "(1|2*)*")
}

func TestCat(t *testing.T) { // P17.1
	long := Cat(One(1), Cat(One(2), One(3)))
	for _, e := range []api.Expr{Nothing(), Empty(), Any(), One(1), Star(One(1)), long, Alt(One(1), One(2))} {
		checkExpr(t, "nothing ahead", Cat(Nothing(), e), Nothing())
		checkExpr(t, "nothing behind", Cat(e, Nothing()), Nothing())
		checkExpr(t, "empty ahead", Cat(Empty(), e), e)
		checkExpr(t, "empty behind", Cat(e, Empty()), e)
	}
	checkText(t, "of a cat ahead", Cat(long, One(4)), "1 2 3 4")
	checkText(t, "of a cat behind", Cat(One(4), long), "4 1 2 3")
	checkText(t, "of two cats", Cat(long, long), "1 2 3 1 2 3")
	checkText(t, "of a cat within a star", Cat(Star(long), long), "(1 2 3)* 1 2 3")
	checkText(t, "of a cat within an alt", Cat(Alt(long, Any()), long), "(.|1 2 3) 1 2 3")
	checkText(t, "of a star twice", Cat(Star(Any()), Star(Any())), ".* .*")
	checkText(t, "of alts, which stay as they are", Cat(Alt(One(1), Empty()), Alt(One(2), Empty())), "(()|1) (()|2)")
}

func TestAlt(t *testing.T) { // P17.1
	all := []api.Expr{Empty(), Any(), One(1), One(2), One(10), Star(Any()), Star(One(1)), Cat(Any(), One(1)), Cat(One(1), Any()), Cat(One(1), One(1)), Cat(One(1), Cat(One(1), One(1))), Cat(Alt(One(1), One(2)), One(1))}
	const text = "()|.|1|2|10|.*|1*|. 1|1 .|1 1|1 1 1|(1|2) 1"
	up, down, twice := Nothing(), Nothing(), Nothing()
	for i := range all {
		up = Alt(up, all[i])
		down = Alt(down, all[len(all)-1-i])
		twice = Alt(Alt(twice, all[i]), all[(i*5)%len(all)])
	}
	checkText(t, "rising", up, text)
	checkText(t, "falling", down, text)
	checkText(t, "each twice", twice, text)
	checkText(t, "with itself", Alt(up, up), text)
	checkText(t, "with nothing", Alt(Nothing(), Alt(up, Nothing())), text)
	for _, e := range append(all, up, Nothing()) {
		checkExpr(t, "the same twice", Alt(e, e), e)
		checkExpr(t, "nothing ahead", Alt(Nothing(), e), e)
		checkExpr(t, "nothing behind", Alt(e, Nothing()), e)
	}
	checkText(t, "of alts of alts", Alt(Alt(Alt(One(4), One(2)), One(3)), Alt(One(1), Alt(One(5), One(2)))), "1|2|3|4|5")
	checkText(t, "alts within others stay", Alt(Star(Alt(One(1), One(2))), Alt(One(1), One(3))), "1|3|(1|2)*")
	checkText(t, "any takes nothing away", Alt(Any(), Alt(One(1), Star(Any()))), ".|1|.*")
}

func TestOrderOfTerms(t *testing.T) { // P17.1: by kinds; of one by the number; else by a, then by b
	rising := []string{"()", ".", "2", "10", "65535", ".*", "2*", "(. .)*", "(1 9)*", "(2 1)*", "(1|2)*", ". 9", ". .*", "1 9", "2 1", "2 2", "2 1*", "2 1 1", "2 (1|2)", "2* 1", "(1|2) 1", "(1|3) 1"}
	for i, a := range rising {
		for k, b := range rising[i+1:] {
			want := a + "|" + b
			checkText(t, want, Alt(must(t, a), must(t, b)), want)
			checkText(t, want, Alt(must(t, b), must(t, a)), want)
			if x, y := must(t, a), must(t, rising[i+1+k]); sameExpr(x, y) {
				t.Errorf("%s and %s are alike", a, b)
			}
		}
	}
}

func TestJoinedOfWhatIsNotRight(t *testing.T) { // P17.1: the zero expression
	for what, e := range wrongs {
		checkExpr(t, "Star of "+what, Star(e), api.Expr{})
		for _, other := range []api.Expr{Nothing(), Empty(), Any(), e} {
			checkExpr(t, "Cat of "+what, Cat(e, other), api.Expr{})
			checkExpr(t, "Cat with "+what, Cat(other, e), api.Expr{})
			checkExpr(t, "Alt of "+what, Alt(e, other), api.Expr{})
			checkExpr(t, "Alt with "+what, Alt(other, e), api.Expr{})
		}
	}
}

func TestSizes(t *testing.T) { // P17.1: at most MaxExpr
	for _, c := range []struct {
		what string
		got  api.Expr
		x    *tree
		size int
	}{
		{"a star, just so great", Star(written(sized(299))), star(sized(299)), 300},
		{"a star that is greater", Star(written(sized(300))), star(sized(300)), 301},
		{"a cat, just so great", Cat(Star(Any()), written(sized(297))), cat(star(dot), sized(297)), 300},
		{"a cat that is greater", Cat(Star(Any()), written(sized(298))), cat(star(dot), sized(298)), 301},
		{"a cat of a cat, just so great", Cat(written(sized(150)), written(sized(149))), modelCat(sized(150), sized(149)), 300},
		{"a cat of a cat that is greater", Cat(written(sized(149)), written(sized(151))), modelCat(sized(149), sized(151)), 301},
		{"a cat of the greatest", Cat(written(sized(300)), written(sized(300))), cat(sized(300), sized(300)), 601},
		{"with empty", Cat(Empty(), written(sized(300))), sized(300), 300},
		{"with nothing", Cat(written(sized(300)), Nothing()), nothing, 1},
		{"an alt, just so great", Alt(Star(Any()), written(many(149))), modelAlt(star(dot), many(149)), 300},
		{"an alt that is greater", Alt(Any(), written(many(150))), modelAlt(dot, many(150)), 301},
		{"an alt of two, just so great", Alt(Any(), written(sized(298))), alt(dot, sized(298)), 300},
		{"an alt of two that is greater", Alt(Any(), written(sized(299))), alt(dot, sized(299)), 301},
		{"an alt of what is there", Alt(written(many(150)), written(many(150))), many(150), 299},
		{"an alt of the greatest", Alt(written(sized(300)), written(modelAlt(star(dot), many(149)))), modelAlt(sized(300), modelAlt(star(dot), many(149))), 601},
		{"an alt of nothing", Alt(written(sized(300)), Nothing()), sized(300), 300},
	} {
		if c.x.size() != c.size {
			t.Fatalf("%s: the size is %d", c.what, c.x.size())
		}
		checkExpr(t, c.what, c.got, written(c.x))
		checkRight(t, c.what, c.got, c.size <= api.MaxExpr)
	}
}

func TestDrawnTerms(t *testing.T) { // P17.1
	r := rand.New(rand.NewSource(1))
	for _, most := range []int{2, 3, 4, 6, 10, 20, 40} {
		for range 400 {
			x := anyTree(r, most)
			checkExpr(t, "what is built", build(x), written(formed(x)))
		}
	}
}

func TestDrawnTermsAboutTheGreatestSize(t *testing.T) { // P17.1
	r := rand.New(rand.NewSource(2))
	fit, great := 0, 0
	for range 600 {
		x, y := anyFormed(r, 20+r.Intn(260)), anyFormed(r, 20+r.Intn(260))
		if x.size() > 300 || y.size() > 300 {
			continue
		}
		a, b := written(x), written(y)
		checkExpr(t, "Star", Star(a), written(modelStar(x)))
		checkExpr(t, "Cat", Cat(a, b), written(modelCat(x, y)))
		checkExpr(t, "Alt", Alt(a, b), written(modelAlt(x, y)))
		if modelAlt(x, y).size() > 300 {
			great++
		} else {
			fit++
		}
	}
	if fit < 100 || great < 100 {
		t.Errorf("%d fit, %d are too great", fit, great)
	}
}
