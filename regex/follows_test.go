package regex

import (
	"math/rand"
	"slices"
	"testing"

	"drover/api"
)

func TestWordsAreThoseOfWhatIsLeft(t *testing.T) { // P17.6
	r := rand.New(rand.NewSource(12))
	l := words(3, 0, 1, 2, 3)
	in := 0
	for _, most := range []int{2, 4, 8, 16, 40} {
		for range 60 {
			e := written(anyFormed(r, most))
			for _, n := range []int{-3, 0, 1, 2, 3, 65536} {
				left := Derive(e, n)
				if !Right(left) {
					continue
				}
				for _, word := range l {
					got := Match(e, slices.Concat([]int{n}, word))
					if got != Match(left, word) {
						t.Errorf("%s, %d, %v: %v, but not of %s", Text(e), n, word, got, Text(left))
					}
					if got {
						in++
					}
				}
			}
		}
	}
	if in < 5000 {
		t.Errorf("%d words are in", in)
	}
}

func TestWordsAreThoseWithNothingLeft(t *testing.T) { // P17.6: what is left behind all numbers is Nullable
	r := rand.New(rand.NewSource(13))
	in, out := 0, 0
	for range 3000 {
		e := written(anyFormed(r, 1+r.Intn(14)))
		var word []int
		left := e
		for range r.Intn(7) {
			n := 1 + r.Intn(3)
			// A number behind which there is nothing says less.
			if Derive(left, n).Nodes[0].Kind == api.Nothing {
				n = 1 + r.Intn(3)
			}
			word = append(word, n)
			left = Derive(left, n)
			if !Right(left) {
				break
			}
		}
		if !Right(left) {
			continue
		}
		checkMatch(t, e, word, Nullable(left))
		if Nullable(left) {
			in++
		} else {
			out++
		}
	}
	if in < 500 || out < 500 {
		t.Errorf("%d words are in, %d aren't", in, out)
	}
}

func TestTextIsRead(t *testing.T) { // P17.6
	r := rand.New(rand.NewSource(14))
	for _, most := range []int{2, 4, 8, 16, 40, 100, 200} {
		for range 200 {
			e := written(anyFormed(r, most))
			if s := Text(e); Right(e) {
				checkParse(t, s, e, api.OK)
			}
		}
	}
	for _, x := range []*tree{sized(300), star(sized(299)), many(150), modelAlt(star(dot), many(149)), cat(star(many(74)), row(75))} {
		checkRight(t, "of the greatest", written(x), true)
		checkParse(t, Text(written(x)), written(x), api.OK)
	}
	long := one(65535)
	for n := 65534; n > 65535-150; n-- {
		long = alt(one(n), long)
	}
	checkParse(t, Text(written(long)), written(long), api.OK)
}

func TestTextOfDeepOnes(t *testing.T) { // P17.5 says ErrBig of more than MaxDeep, also where it is a right one's text
	for n := 20; n <= 30; n++ {
		e := written(stars(n))
		checkRight(t, "stars", e, true)
		if n <= 24 {
			checkParse(t, Text(e), e, api.OK)
		} else {
			checkParse(t, Text(e), api.Expr{}, api.ErrBig)
		}
	}
}

func TestAltMindsNoOrder(t *testing.T) { // P17.6
	r := rand.New(rand.NewSource(15))
	for range 3000 {
		most := 1 + r.Intn(12)
		a, b, c := written(anyFormed(r, most)), written(anyFormed(r, most)), written(anyFormed(r, most))
		checkExpr(t, "the order of two", Alt(a, b), Alt(b, a))
		checkExpr(t, "three", Alt(Alt(a, b), c), Alt(a, Alt(b, c)))
		checkExpr(t, "itself", Alt(a, a), a)
		checkExpr(t, "what is there", Alt(Alt(a, b), a), Alt(a, b))
		checkExpr(t, "what is there, of more", Alt(Alt(a, b), Alt(b, c)), Alt(a, Alt(b, c)))
	}
}

func TestCatMindsNotHowThreeAreJoined(t *testing.T) { // P17.6
	r := rand.New(rand.NewSource(16))
	unlike := 0
	for range 3000 {
		most := 1 + r.Intn(12)
		a, b, c := written(anyFormed(r, most)), written(anyFormed(r, most)), written(anyFormed(r, most))
		checkExpr(t, "three", Cat(Cat(a, b), c), Cat(a, Cat(b, c)))
		if !sameExpr(Cat(a, b), Cat(b, a)) {
			unlike++
		}
	}
	if unlike < 1000 {
		t.Errorf("just %d mind the order of two", unlike)
	}
}
