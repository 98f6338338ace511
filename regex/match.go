package regex

import "drover/api"

// Match is whether word is one of e's words.
func Match(e api.Expr, word []int) bool {
	t := newTerms()
	place := t.read(e)
	if place == none {
		return false
	}
	if len(word) == 0 {
		return t.list[place].empty
	}
	whole := t.spot(place)
	for i, n := range word {
		whole.step(n, i == 0)
		if !whole.live {
			return false
		}
	}
	return whole.over
}

// spot is a term where it stands: one that stands in two places is two spots, since a word may be at one of them and not at the other.
type spot struct {
	term
	a, b *spot
	live bool // the last number of the word is read within it
	over bool // and with that one of its words may be over
}

func (t *terms) spot(place int) *spot {
	s := &spot{term: t.list[place]}
	switch s.node.Kind {
	case api.Cat, api.Alt:
		s.b = t.spot(s.node.B)
		fallthrough
	case api.Star:
		s.a = t.spot(s.node.A)
	}
	return s
}

// step reads the next number; begins: one of its words may begin there.
func (s *spot) step(n int, begins bool) {
	if !begins && !s.live {
		return
	}
	switch s.node.Kind {
	case api.One:
		begins = begins && n == s.node.Switch
		fallthrough
	case api.Any:
		s.live, s.over = begins, begins
	case api.Star:
		s.a.step(n, begins || s.a.over)
		s.live, s.over = s.a.live, s.a.over
	case api.Cat:
		// b goes first: it needs what a was ahead of n.
		s.b.step(n, begins && s.a.empty || s.a.over)
		s.a.step(n, begins)
		s.live, s.over = s.a.live || s.b.live, s.a.over && s.b.empty || s.b.over
	case api.Alt:
		s.a.step(n, begins)
		s.b.step(n, begins)
		s.live, s.over = s.a.live || s.b.live, s.a.over || s.b.over
	}
}
