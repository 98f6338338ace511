package regex

import (
	"math/rand"
	"testing"

	"drover/api"
)

func TestText(t *testing.T) { // P17.4
	one, two, three := One(1), One(2), One(3)
	for _, c := range []struct {
		e    api.Expr
		want string
	}{
		{Nothing(), "!"},
		{Empty(), "()"},
		{Any(), "."},
		{One(7), "7"},
		{One(10), "10"},
		{One(65535), "65535"},
		{Star(Any()), ".*"},
		{Star(One(12)), "12*"},
		{Star(Cat(one, two)), "(1 2)*"},
		{Star(Alt(one, two)), "(1|2)*"},
		{Star(Alt(one, Cat(two, three))), "(1|2 3)*"},
		{Star(Cat(Star(one), two)), "(1* 2)*"},
		{Cat(one, two), "1 2"},
		{Cat(one, Cat(two, three)), "1 2 3"},
		{Cat(Cat(one, two), three), "1 2 3"},
		{Cat(Star(one), Star(two)), "1* 2*"},
		{Cat(Star(Cat(one, two)), three), "(1 2)* 3"},
		{Cat(Alt(one, two), three), "(1|2) 3"},
		{Cat(one, Alt(two, three)), "1 (2|3)"},
		{Cat(one, Cat(Alt(two, three), one)), "1 (2|3) 1"},
		{Cat(Alt(one, Empty()), Alt(two, Any())), "(()|1) (.|2)"},
		{Alt(one, two), "1|2"},
		{Alt(one, Alt(two, three)), "1|2|3"},
		{Alt(Star(one), Cat(one, two)), "1*|1 2"},
		{Alt(Cat(one, two), Cat(two, three)), "1 2|2 3"},
		{Alt(Cat(one, Alt(two, three)), Empty()), "()|1 (2|3)"},
		{Star(Star(Star(Alt(one, two)))), "(1|2)*"},
	} {
		checkText(t, c.want, c.e, c.want)
	}
}

func TestTextOfWhatIsNotRight(t *testing.T) { // P17.4: no bytes
	for what, e := range wrongs {
		if s := Text(e); s != "" {
			t.Errorf("Text of %s: %q", what, s)
		}
	}
}

func TestTextOfDrawnOnes(t *testing.T) { // P17.4
	r := rand.New(rand.NewSource(9))
	for _, most := range []int{2, 4, 8, 16, 40, 120} {
		for range 300 {
			x := anyFormed(r, most)
			want := modelText(x)
			if x.size() > 300 {
				want = ""
			}
			if got := Text(written(x)); got != want {
				t.Errorf("%q, not %q", got, want)
			}
		}
	}
}
