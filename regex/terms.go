package regex

import (
	"cmp"
	"slices"

	"drover/api"
)

// terms are terms in one form, none of which is too great. Those that are the same stand once, so that places tell whether they are.
type terms struct {
	list []term
	find map[api.ExprNode]int
}

// term has the places of what it is made of in its node.
type term struct {
	node  api.ExprNode
	size  int
	empty bool // the word without a number is one of its words
}

// none stands for a term that isn't right, or is too great, and so is what is made of it.
const none = -1

func newTerms() *terms { return &terms{find: map[api.ExprNode]int{}} }

// put is the place of a term that is joined already.
func (t *terms) put(n api.ExprNode) int {
	if place, ok := t.find[n]; ok {
		return place
	}
	x := term{node: n, size: t.sizeOf(n), empty: t.isEmpty(n)}
	if x.size > api.MaxExpr {
		return none
	}
	t.list = append(t.list, x)
	t.find[n] = len(t.list) - 1
	return len(t.list) - 1
}

func (t *terms) sizeOf(n api.ExprNode) int {
	size := 1
	switch n.Kind {
	case api.Cat, api.Alt:
		size += t.list[n.B].size
		fallthrough
	case api.Star:
		size += t.list[n.A].size
	}
	return size
}

func (t *terms) isEmpty(n api.ExprNode) bool {
	switch n.Kind {
	case api.Empty, api.Star:
		return true
	case api.Cat:
		return t.list[n.A].empty && t.list[n.B].empty
	case api.Alt:
		return t.list[n.A].empty || t.list[n.B].empty
	}
	return false
}

// star is the STAR of a term.
func (t *terms) star(a int) int {
	if a == none {
		return none
	}
	switch t.list[a].node.Kind {
	case api.Nothing:
		return t.put(api.ExprNode{Kind: api.Empty})
	case api.Empty, api.Star:
		return a
	}
	return t.put(api.ExprNode{Kind: api.Star, A: a})
}

// cat is the CAT of two terms.
func (t *terms) cat(a, b int) int {
	if a == none || b == none {
		return none
	}
	x, y := t.list[a].node, t.list[b].node
	switch {
	case x.Kind == api.Nothing || y.Kind == api.Empty:
		return a
	case y.Kind == api.Nothing || x.Kind == api.Empty:
		return b
	case x.Kind == api.Cat:
		return t.cat(x.A, t.cat(x.B, b))
	}
	return t.put(api.ExprNode{Kind: api.Cat, A: a, B: b})
}

// alt is the ALT of two terms.
func (t *terms) alt(a, b int) int {
	if a == none || b == none {
		return none
	}
	parts := append(t.parts(a), t.parts(b)...)
	if len(parts) == 0 {
		return t.put(api.ExprNode{Kind: api.Nothing})
	}
	slices.SortFunc(parts, t.compare)
	parts = slices.Compact(parts)
	last := len(parts) - 1
	place := parts[last]
	for last > 0 && place != none {
		last--
		place = t.put(api.ExprNode{Kind: api.Alt, A: parts[last], B: place})
	}
	return place
}

// parts go along the b's alone: in one form the a of an alt is one part.
func (t *terms) parts(place int) []int {
	var l []int
	n := t.list[place].node
	for n.Kind == api.Alt {
		l = append(l, n.A)
		place = n.B
		n = t.list[place].node
	}
	if n.Kind == api.Nothing {
		return l
	}
	return append(l, place)
}

// compare is the order of terms.
func (t *terms) compare(a, b int) int {
	if a == b {
		return 0
	}
	x, y := t.list[a].node, t.list[b].node
	switch {
	case x.Kind != y.Kind:
		return cmp.Compare(x.Kind, y.Kind)
	case x.Switch != y.Switch:
		return cmp.Compare(x.Switch, y.Switch)
	case x.A != y.A:
		return t.compare(x.A, y.A)
	}
	return t.compare(x.B, y.B)
}

// behind is what tells of terms what is left of them behind n.
func (t *terms) behind(n int) func(place int) int {
	var left func(place int) int
	left = func(place int) int {
		if place == none {
			return none
		}
		x := t.list[place].node
		switch x.Kind {
		case api.One:
			if x.Switch != n {
				break
			}
			fallthrough
		case api.Any:
			return t.put(api.ExprNode{Kind: api.Empty})
		case api.Star:
			return t.cat(left(x.A), place)
		case api.Cat:
			first := t.cat(left(x.A), x.B)
			if !t.list[x.A].empty {
				return first
			}
			return t.alt(first, left(x.B))
		case api.Alt:
			return t.alt(left(x.A), left(x.B))
		}
		return t.put(api.ExprNode{Kind: api.Nothing})
	}
	return left
}

// write is the writing of a term.
func (t *terms) write(place int) api.Expr {
	var e api.Expr
	if place == none {
		return e
	}
	written := map[int]int{}
	var finish func(place int) int
	finish = func(place int) int {
		if at, ok := written[place]; ok {
			return at
		}
		n := t.list[place].node
		switch n.Kind {
		case api.Cat, api.Alt:
			n.A, n.B = finish(n.A), finish(n.B)
		case api.Star:
			n.A = finish(n.A)
		}
		e.Nodes = append(e.Nodes, n)
		written[place] = len(e.Nodes) - 1
		return written[place]
	}
	finish(place)
	return e
}

// read is the term that e is the writing of; none, if e is none.
func (t *terms) read(e api.Expr) int {
	place := t.lay(e.Nodes)
	// Whatever the nodes are, what is joined of them is in one form: they are its writing, or that of no term.
	if !slices.Equal(t.write(place).Nodes, e.Nodes) {
		return none
	}
	return place
}

// lay joins what nodes say, and is what the last one comes to.
func (t *terms) lay(nodes []api.ExprNode) int {
	// No writing has more nodes than the term's size.
	if len(nodes) > api.MaxExpr {
		return none
	}
	place := none
	var ahead []int
	for _, n := range nodes {
		place = t.join(n, ahead)
		ahead = append(ahead, place)
	}
	return place
}

// join is what a node says of those ahead of it.
func (t *terms) join(n api.ExprNode, ahead []int) int {
	if !isNode(n, len(ahead)) {
		return none
	}
	switch n.Kind {
	case api.Star:
		return t.star(ahead[n.A])
	case api.Cat:
		return t.cat(ahead[n.A], ahead[n.B])
	case api.Alt:
		return t.alt(ahead[n.A], ahead[n.B])
	}
	return t.put(n)
}

// isNode is whether a node may be behind so many others.
func isNode(n api.ExprNode, ahead int) bool {
	switch n.Kind {
	case api.Nothing, api.Empty, api.Any:
		return n == api.ExprNode{Kind: n.Kind}
	case api.One:
		return n == api.ExprNode{Kind: api.One, Switch: n.Switch} && n.Switch >= 1 && n.Switch <= api.MaxSwitch
	case api.Cat, api.Alt:
		if n.B < 0 || n.B >= ahead {
			return false
		}
		fallthrough
	case api.Star:
		return n.A >= 0 && n.A < ahead
	}
	return false
}
