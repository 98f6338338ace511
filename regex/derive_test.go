package regex

import (
	"math/rand"
	"testing"

	"drover/api"
)

func checkDerive(t *testing.T, s string, n int, want string) {
	t.Helper()
	checkText(t, s, Derive(must(t, s), n), want)
}

func TestNullable(t *testing.T) { // P17.2
	for s, want := range map[string]bool{
		"!": false, "()": true, ".": false, "1": false, "65535": false, "1*": true, "(1 2)*": true, ".*": true,
		"1 2": false, "1* 2": false, "1 2*": false, "1* 2*": true, "1* 2* 3*": true, "1* 2 3*": false,
		"1|2": false, "()|1": true, "1|2*": true, "1|2 3|4": false, "1|2 3|(2 3)*": true,
		"(()|1) (()|2)": true, "(()|1) 2": false, "(1|2) 3*": false, "(1* 2*|3) 4*": true,
	} {
		if got := Nullable(must(t, s)); got != want {
			t.Errorf("Nullable(%s): %v", s, got)
		}
	}
	for what, e := range wrongs {
		if Nullable(e) {
			t.Errorf("Nullable of %s", what)
		}
	}
	// These would be, if what isn't right were asked.
	for _, e := range []api.Expr{of(api.ExprNode{Kind: api.Empty, A: 1}), of(leafOf(1), starOf(0), starOf(1)), of(leafOf(1), leafOf(2), starOf(0))} {
		if Nullable(e) {
			t.Errorf("Nullable(%v)", e)
		}
	}
}

func TestDeriveOfEachKind(t *testing.T) { // P17.2
	for _, n := range append(wide, 1, 2, 65535) {
		checkDerive(t, "!", n, "!")
		checkDerive(t, "()", n, "!")
		checkDerive(t, ".", n, "()")
		checkDerive(t, ".*", n, ".*")
		checkDerive(t, ". 7*", n, "7*")
	}
	checkDerive(t, "1", 1, "()")
	checkDerive(t, "65535", 65535, "()")
	for _, n := range append(wide, 2, 10, 65534) {
		checkDerive(t, "1", n, "!")
		checkDerive(t, "1*", n, "!")
		checkDerive(t, "1* 65535", n, "!")
		checkDerive(t, "1|.", n, "()")
		checkDerive(t, "1|. 3", n, "3")
	}
	checkDerive(t, "1*", 1, "1*")
	checkDerive(t, "(1 2)*", 1, "2 (1 2)*")
	checkDerive(t, "(1 2)*", 2, "!")
	checkDerive(t, "(1|2 3)*", 2, "3 (1|2 3)*")
	checkDerive(t, "1 2", 1, "2")
	checkDerive(t, "1 2", 2, "!")
	checkDerive(t, "1* 2", 1, "1* 2")
	checkDerive(t, "1* 2", 2, "()")
	checkDerive(t, "1* 1", 1, "()|1* 1")
	checkDerive(t, "(()|1) 2 3", 2, "3")
	checkDerive(t, "(()|1) 1 3", 1, "3|1 3")
	checkDerive(t, "1* 2* 1 4", 1, "4|1* 2* 1 4")
	checkDerive(t, "1* 2* 1 4", 2, "2* 1 4")
	checkDerive(t, "1 2|1 3|2 4", 1, "2|3")
	checkDerive(t, "1 2|1 3|2 4", 2, "4")
	checkDerive(t, "1 2|1 3|2 4", 3, "!")
	checkDerive(t, "(1 2|1 3) 4", 1, "(2|3) 4")
	checkDerive(t, "(1|2) 3|1 3", 1, "3")
}

func TestDeriveOfWhatIsNotRight(t *testing.T) { // P17.2
	for what, e := range wrongs {
		for _, n := range []int{-1, 0, 1, 2} {
			checkExpr(t, "Derive of "+what, Derive(e, n), api.Expr{})
		}
	}
}

func TestDeriveOfGreatOnes(t *testing.T) { // P17.2: the zero expression, if the size would be more than MaxExpr
	sizes := map[int]int{}
	for k := 50; k <= 90; k++ {
		for _, x := range []*tree{
			star(row(k)), star(cat(star(one(1)), row(k))), cat(star(row(k)), cat(one(2), row(30))), cat(star(row(k)), cat(one(2), cat(star(one(2)), row(31)))),
			alt(star(row(k)), cat(star(row(k)), one(1))), cat(star(one(1)), cat(star(one(2)), row(k))),
		} {
			e := written(formed(x))
			if len(e.Nodes) == 0 {
				continue
			}
			for n := range 3 {
				left := modelDerive(formed(x), n)
				sizes[left.size()]++
				checkExpr(t, "Derive", Derive(e, n), written(left))
			}
		}
	}
	for size := 299; size <= 302; size++ {
		if sizes[size] == 0 {
			t.Errorf("nothing is left of the size %d", size)
		}
	}
	if e := written(star(row(149))); !Right(e) || Right(Derive(e, 1)) || !sameExpr(Derive(e, 2), Nothing()) {
		t.Error("of the greatest star")
	}
}

func TestDeriveOfWhatNeedNotBeDerived(t *testing.T) { // P17.2: what is left of b counts just where a may be without a number
	b := star(row(90))
	x := cat(one(2), b)
	if left := modelDerive(b, 1); left.size() <= 300 {
		t.Fatal(left.size())
	}
	checkExpr(t, "behind a that must be read", Derive(written(x), 2), written(b))
	checkExpr(t, "behind a that isn't read", Derive(written(x), 1), Nothing())
	checkExpr(t, "behind a that may be left out", Derive(written(cat(star(one(2)), b)), 1), api.Expr{})
}

func TestDrawnDerives(t *testing.T) { // P17.2
	r := rand.New(rand.NewSource(6))
	var fit, great int
	for _, most := range []int{2, 4, 8, 16, 40, 100, 200, 250} {
		for range 300 {
			x := anyFormed(r, most)
			if x.size() > 300 {
				continue
			}
			e := written(x)
			if got := Nullable(e); got != modelNullable(x) {
				t.Errorf("Nullable(%s): %v", modelText(x), got)
			}
			n := r.Intn(5)
			left := modelDerive(x, n)
			checkExpr(t, "Derive", Derive(e, n), written(left))
			if left.size() > 300 {
				great++
			} else {
				fit++
			}
		}
	}
	if fit < 1000 || great < 50 {
		t.Errorf("%d fit, %d are too great", fit, great)
	}
}
