package regex

import (
	"math"
	"math/rand"
	"slices"
	"strings"
	"testing"

	"drover/api"
)

func TestMatch(t *testing.T) { // P17.3
	for _, c := range []struct {
		s     string
		words [][]int
		nots  [][]int
	}{
		{"!", nil, [][]int{nil, {0}, {1}, {1, 1}}},
		{"()", [][]int{nil, {}}, [][]int{{0}, {1}, {1, 1}}},
		{".", [][]int{{1}, {65535}, {0}, {-1}, {65536}, {math.MinInt}, {math.MaxInt}}, [][]int{nil, {1, 1}, {0, 0}}},
		{"1", [][]int{{1}}, [][]int{nil, {2}, {0}, {-1}, {10}, {65537}, {1 << 32}, {1<<32 + 1}, {1, 1}}},
		{"65535", [][]int{{65535}}, [][]int{nil, {-1}, {65536}, {1<<16 + 65535}}},
		{"1*", [][]int{nil, {1}, {1, 1}, {1, 1, 1, 1, 1}}, [][]int{{2}, {1, 2}, {2, 1}, {1, 1, 2}}},
		{"(1 2)*", [][]int{nil, {1, 2}, {1, 2, 1, 2}}, [][]int{{1}, {2}, {1, 2, 1}, {2, 1}, {1, 1, 2, 2}}},
		{"1 2", [][]int{{1, 2}}, [][]int{nil, {1}, {2}, {2, 1}, {1, 2, 2}, {1, 1, 2}}},
		{"1|2 3", [][]int{{1}, {2, 3}}, [][]int{nil, {2}, {3}, {1, 3}, {1, 2, 3}}},
		{"()|1", [][]int{nil, {1}}, [][]int{{2}, {1, 1}}},
		{"1 .* 4", [][]int{{1, 4}, {1, 9, 4}, {1, 4, 4}, {1, -7, 0, 4}}, [][]int{{1}, {4}, {1, 4, 3}, {4, 1}}},
		{"(1*|2)* 3", [][]int{{3}, {1, 3}, {2, 3}, {2, 1, 1, 2, 3}}, [][]int{nil, {1, 2}, {3, 3}, {1, 3, 2}}},
		// One term in two places, of which a word is at one alone.
		{"(1 2) 3 (1 2)", [][]int{{1, 2, 3, 1, 2}}, [][]int{{1, 2, 3}, {1, 2, 1, 2}, {1, 2, 3, 2}, {1, 2, 3, 1}}},
		{"(1 1)* 1", [][]int{{1}, {1, 1, 1}, {1, 1, 1, 1, 1}}, [][]int{nil, {1, 1}, {1, 1, 1, 1}}},
		{"1 1 1", [][]int{{1, 1, 1}}, [][]int{nil, {1}, {1, 1}, {1, 1, 1, 1}}},
		// a that may be left out, behind which b may begin at first, and again.
		{"1* 2* 3*", [][]int{nil, {1}, {2}, {3}, {1, 3}, {1, 2, 3}, {2, 3, 3}}, [][]int{{2, 1}, {3, 1}, {3, 2}, {1, 2, 1}}},
		{"(1* 2)*", [][]int{nil, {2}, {2, 2}, {1, 2, 2, 1, 1, 2}}, [][]int{{1}, {2, 1}, {2, 2, 1}}},
		{"(()|1) (()|2) 3", [][]int{{3}, {1, 3}, {2, 3}, {1, 2, 3}}, [][]int{nil, {2, 1, 3}, {1, 1, 3}, {1, 2}}},
		{"(1 2|1 3)* 1", [][]int{{1}, {1, 3, 1}, {1, 2, 1, 3, 1}}, [][]int{nil, {1, 2}, {1, 1}, {2, 1}, {1, 2, 3, 1}}},
	} {
		e := must(t, c.s)
		for _, word := range c.words {
			checkMatch(t, e, word, true)
		}
		for _, word := range c.nots {
			checkMatch(t, e, word, false)
		}
	}
}

func TestMatchOfWhatIsNotRight(t *testing.T) { // P17.3
	l := words(3, 0, 1, 2)
	for what, e := range wrongs {
		for _, word := range l {
			if Match(e, word) {
				t.Errorf("Match of %s, %v", what, word)
			}
		}
	}
	if Match(of(api.ExprNode{Kind: api.Empty, Switch: 1}), nil) || Match(of(api.ExprNode{Kind: api.Any, A: 1}), []int{1}) {
		t.Error("Match of a node with what it has not")
	}
}

func TestMatchOfDrawnOnes(t *testing.T) { // P17.3
	r := rand.New(rand.NewSource(7))
	l := words(4, 1, 2, 3)
	var in, out int
	for _, most := range []int{2, 3, 4, 6, 8, 12} {
		for range 150 {
			x := anyFormed(r, most)
			e := written(x)
			for _, word := range l {
				want := hasWord(x, word)
				checkMatch(t, e, word, want)
				if want {
					in++
				} else {
					out++
				}
			}
		}
	}
	if in < 5000 || out < 20000 {
		t.Errorf("%d words are in, %d aren't", in, out)
	}
}

func TestMatchOfGreatOnes(t *testing.T) { // P17.3: what is left of them may be greater than MaxExpr
	e := written(star(row(149)))
	if Right(Derive(e, 1)) {
		t.Fatal("what is left is not too great")
	}
	for _, n := range []int{0, 1, 148, 149, 150, 298, 2980, 2981} {
		checkMatch(t, e, slices.Repeat([]int{1}, n), n%149 == 0)
	}
	// A 1 that many places ahead of the end: a machine that takes one state at a time has 2 to the power of 140 of them.
	s := "(1|2)* 1" + strings.Repeat(" .", 140)
	e = must(t, s)
	r := rand.New(rand.NewSource(8))
	for range 30 {
		var word []int
		for range 120 + r.Intn(400) {
			word = append(word, 1+r.Intn(2))
		}
		checkMatch(t, e, word, len(word) > 140 && word[len(word)-141] == 1)
	}
}

func TestMatchOfLongWords(t *testing.T) { // P17.3, R1
	word := slices.Repeat([]int{1, 2, 3}, 200000)
	checkMatch(t, must(t, "(1 2 3)*"), word, true)
	checkMatch(t, must(t, "(1 2 3)* 1"), word, false)
	checkMatch(t, must(t, "(. .)*"), word[1:], false)
	checkMatch(t, must(t, "(. .)*"), word, true)
	checkMatch(t, must(t, "1 .* 3"), word, true)
	checkMatch(t, must(t, ".* 3 .* 2"), word, false)
	checkMatch(t, must(t, "1"), word, false)
	greatest := "(" + strings.Repeat(".* ", 98) + ".|1)*"
	if e := must(t, greatest); len(e.Nodes) == 0 || !Match(e, word) {
		t.Error("a word that is in all places at once")
	}
}
