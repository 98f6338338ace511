package regex

import (
	"math/rand"
	"slices"
	"testing"

	"drover/api"
)

func TestExamples(t *testing.T) { // the document's section 'Examples'
	checkText(t, "a cat of an alt", Cat(One(1), Alt(One(3), One(2))), "1 (2|3)")
	checkText(t, "an alt of an alt", Alt(Alt(One(2), Any()), One(2)), ".|2")
	checkText(t, "(1 2) 3*", must(t, "(1 2) 3*"), "1 2 3*")
	checkText(t, "stars of empty", Star(Star(Empty())), "()")
	e := must(t, "(1 2)* 1")
	checkText(t, "what is left", Derive(e, 1), "()|2 (1 2)* 1")
	checkMatch(t, e, []int{1, 2, 1}, true)
	checkMatch(t, e, []int{1, 2}, false)
	checkExpr(t, "1 1", must(t, "1 1"), of(leafOf(1), catOf(0, 0)))
	for _, s := range []string{"01", "1 |", "(", ""} {
		checkParse(t, s, api.Expr{}, api.ErrSyntax)
	}
}

func TestWhatIsHandedInStays(t *testing.T) { // R2: nor is what stands behind its length written into
	r := rand.New(rand.NewSource(17))
	for range 500 {
		long, other := rawNodes(anyTree(r, 8)), rawNodes(anyTree(r, 8))
		word := []int{1, 2, 3, 1, 2}
		wantLong, wantOther, wantWord := slices.Clone(long), slices.Clone(other), slices.Clone(word)
		for n := range len(long) + 1 {
			a, b := api.Expr{Nodes: long[:n]}, api.Expr{Nodes: other[:min(n, len(other))]}
			Star(a)
			Cat(a, b)
			Alt(a, b)
			Right(a)
			Nullable(a)
			Derive(a, 1)
			Match(a, word[:3])
			Text(a)
		}
		if !slices.Equal(long, wantLong) || !slices.Equal(other, wantOther) || !slices.Equal(word, wantWord) {
			t.Fatalf("%v %v %v, not %v %v %v", long, other, word, wantLong, wantOther, wantWord)
		}
	}
}

func TestAnswersAreTheCallers(t *testing.T) { // R2: none is in another one, nor in what was handed in
	a, b := must(t, "1 2|3"), must(t, ".*")
	calls := []func() api.Expr{
		Nothing, Empty, Any,
		func() api.Expr { return One(5) },
		func() api.Expr { return Star(a) },
		func() api.Expr { return Star(b) },
		func() api.Expr { return Cat(a, Empty()) },
		func() api.Expr { return Cat(Empty(), a) },
		func() api.Expr { return Cat(a, b) },
		func() api.Expr { return Alt(a, Nothing()) },
		func() api.Expr { return Alt(a, a) },
		func() api.Expr { return Alt(a, b) },
		func() api.Expr { return Derive(b, 1) },
		func() api.Expr { return Derive(a, 1) },
		func() api.Expr { e, _ := Parse("1 2|3"); return e },
	}
	wantA, wantB := cloneExpr(a), cloneExpr(b)
	for i, call := range calls {
		first, second := call(), call()
		want := cloneExpr(first)
		if len(want.Nodes) == 0 {
			t.Fatalf("call %d has no nodes", i)
		}
		spoil(first)
		checkExpr(t, "another answer", second, want)
		checkExpr(t, "a later answer", call(), want)
		checkExpr(t, "what was handed in", a, wantA)
		checkExpr(t, "what was handed in", b, wantB)
		again := call()
		spoil(a)
		spoil(b)
		checkExpr(t, "an answer, behind what was handed in", again, want)
		a, b = cloneExpr(wantA), cloneExpr(wantB)
	}
}

func TestSameCallsSameAnswers(t *testing.T) { // R3: whatever was asked ahead
	r := rand.New(rand.NewSource(18))
	for range 500 {
		x := anyFormed(r, 30)
		e, other := written(x), written(anyFormed(r, 30))
		s := Text(e)
		left, both, either := Derive(e, 1), Cat(e, other), Alt(e, other)
		read, err := Parse(loose(r, x))
		Parse("(" + s)
		Derive(other, 2)
		Alt(other, api.Expr{})
		checkExpr(t, "Derive", Derive(e, 1), left)
		checkExpr(t, "Cat", Cat(e, other), both)
		checkExpr(t, "Alt", Alt(e, other), either)
		if got := Text(e); got != s {
			t.Errorf("%q, and then %q", s, got)
		}
		if err == api.OK {
			checkExpr(t, "Parse", read, e)
		}
	}
}

// exprOf makes an expression of bytes, right or not: of each node a Kind, a Switch, an A and a B.
func exprOf(data []byte) api.Expr {
	var e api.Expr
	for len(data) >= 4 {
		e.Nodes = append(e.Nodes, api.ExprNode{Kind: int(int8(data[0])), Switch: int(int8(data[1])), A: int(int8(data[2])), B: int(int8(data[3]))})
		data = data[4:]
	}
	return e
}

func FuzzExpressions(f *testing.F) { // R1, P17.1 to P17.4, P17.6
	f.Add([]byte{api.Nothing, 0, 0, 0}, []byte{api.Empty, 0, 0, 0}, []byte{})
	f.Add([]byte{api.One, 1, 0, 0, api.Any, 0, 0, 0, api.Cat, 0, 0, 1, api.Star, 0, 2, 0}, []byte{api.One, 1, 0, 0, api.One, 2, 0, 0, api.Alt, 0, 0, 1}, []byte{1, 2})
	f.Add([]byte{api.One, 1, 0, 0, api.Cat, 0, 0, 0, api.Star, 0, 1, 0, api.Cat, 0, 2, 1}, []byte{api.Any, 0, 0, 0, api.Star, 0, 0, 0, api.Star, 0, 1, 0}, []byte{1, 1, 1})
	f.Fuzz(func(t *testing.T, first, second, numbers []byte) {
		a, b := exprOf(first), exprOf(second)
		checkRight(t, "a", a, modelRight(a))
		if !Right(a) {
			if len(Star(a).Nodes)+len(Cat(a, b).Nodes)+len(Alt(b, a).Nodes)+len(Derive(a, 1).Nodes)+len(Text(a)) > 0 || Nullable(a) || Match(a, nil) {
				t.Errorf("%v says something", a)
			}
			return
		}
		x := treeOf(a.Nodes)
		checkExpr(t, "Star", Star(a), written(modelStar(x)))
		if got, want := Text(a), modelText(x); got != want {
			t.Errorf("%q, not %q", got, want)
		}
		var word []int
		for _, n := range numbers[:min(len(numbers), 8)] {
			checkExpr(t, "Derive", Derive(a, int(int8(n))), written(modelDerive(x, int(int8(n)))))
			word = append(word, int(int8(n)))
		}
		if x.size() < 30 {
			checkMatch(t, a, word, hasWord(x, word))
		}
		if Right(b) {
			y := treeOf(b.Nodes)
			checkExpr(t, "Cat", Cat(a, b), written(modelCat(x, y)))
			checkExpr(t, "Alt", Alt(a, b), written(modelAlt(x, y)))
		}
	})
}

func FuzzTexts(f *testing.F) { // R1, P17.5, P17.6
	for _, s := range []string{"", "1", "1 2", "(1|2)* .", "()|!", "((((1))))**", "65535 65536", "1 |", "(", "0", "\t", "1  (  2  |  .  )  *"} {
		f.Add(s)
	}
	f.Fuzz(func(t *testing.T, s string) {
		if checkBoth(t, s) != api.OK {
			return
		}
		e, _ := Parse(s)
		checkRight(t, s, e, true)
		checkParse(t, Text(e), e, api.OK)
	})
}
