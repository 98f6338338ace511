package pred

import (
	"cmp"
	"maps"
	"slices"

	"drover/api"
)

// The model is chapter 16 word by word, bit by bit.

// spot is a bit of a field.
type spot struct{ field, bit int }

// asks is a cube, by the spots that it asks.
type asks map[spot]bool

func bitOf(n uint64, bit int) bool { return n>>bit&1 == 1 }

func modelRightTest(t api.Test) bool {
	for bit := range 64 {
		if bitOf(t.Value, bit) && !bitOf(t.Mask, bit) {
			return false
		}
	}
	return slices.Contains([]int{1, 2, 3, 4, 5, 6, 7, 8, 9}, t.Field)
}

func modelHolds(t api.Test, vals []uint64) bool {
	value := uint64(0)
	if t.Field < len(vals) {
		value = vals[t.Field]
	}
	for bit := range 64 {
		if bitOf(t.Mask, bit) && bitOf(t.Value, bit) != bitOf(value, bit) {
			return false
		}
	}
	return true
}

func modelRight(p api.Pred) bool {
	for place, n := range p.Nodes {
		if !modelRightNode(n, place) {
			return false
		}
	}
	return len(p.Nodes) >= 1 && len(p.Nodes) <= 60
}

func modelRightNode(n api.PredNode, place int) bool {
	least, most := modelParts(n.Kind)
	if len(n.Subs) < least || len(n.Subs) > most {
		return false
	}
	for _, sub := range n.Subs {
		if sub < 0 || sub > place-1 {
			return false
		}
	}
	if n.Kind == api.Is {
		return modelRightTest(n.Test)
	}
	return n.Test.Field == 0 && n.Test.Value == 0 && n.Test.Mask == 0
}

// modelParts is how many Subs there must be, and may be; of no Kind no number will do.
func modelParts(kind int) (int, int) {
	switch kind {
	case api.Every, api.Never, api.Is:
		return 0, 0
	case api.Not:
		return 1, 1
	case api.And, api.Or:
		return 0, 12
	}
	return 1, 0
}

func modelEval(p api.Pred, vals []uint64) bool {
	return modelRight(p) && modelSays(p, len(p.Nodes)-1, vals)
}

func modelSays(p api.Pred, place int, vals []uint64) bool {
	n := p.Nodes[place]
	switch n.Kind {
	case api.Every:
		return true
	case api.Is:
		return modelHolds(n.Test, vals)
	case api.Not:
		return !modelSays(p, n.Subs[0], vals)
	case api.And:
		for _, sub := range n.Subs {
			if !modelSays(p, sub, vals) {
				return false
			}
		}
		return true
	case api.Or:
		for _, sub := range n.Subs {
			if modelSays(p, sub, vals) {
				return true
			}
		}
	}
	return false
}

func modelJoin(kind int, parts ...api.Pred) api.Pred {
	var nodes []api.PredNode
	var tops []int
	for _, p := range parts {
		if !modelRight(p) {
			return api.Pred{}
		}
		first := len(nodes)
		for _, n := range p.Nodes {
			var subs []int
			for _, sub := range n.Subs {
				subs = append(subs, first+sub)
			}
			nodes = append(nodes, api.PredNode{Kind: n.Kind, Test: n.Test, Subs: subs})
		}
		tops = append(tops, first+len(p.Nodes)-1)
	}
	whole := api.Pred{Nodes: append(nodes, api.PredNode{Kind: kind, Subs: tops})}
	if !modelRight(whole) {
		return api.Pred{}
	}
	return whole
}

func modelWhole(c api.Cube) bool {
	for i, t := range c {
		if !modelRightTest(t) || t.Mask == 0 {
			return false
		}
		for _, ahead := range c[:i] {
			if ahead.Field >= t.Field {
				return false
			}
		}
	}
	return true
}

func modelIn(c api.Cube, vals []uint64) bool {
	for _, t := range c {
		if !modelHolds(t, vals) {
			return false
		}
	}
	return modelWhole(c)
}

// asksOf takes tests of any Mask.
func asksOf(tests ...api.Test) asks {
	a := asks{}
	for _, t := range tests {
		for bit := range 64 {
			if bitOf(t.Mask, bit) {
				a[spot{t.Field, bit}] = bitOf(t.Value, bit)
			}
		}
	}
	return a
}

// cube is a whole one.
func (a asks) cube() api.Cube {
	var c api.Cube
	for _, s := range a.row() {
		if len(c) == 0 || c[len(c)-1].Field != s.field {
			c = append(c, api.Test{Field: s.field})
		}
		last := &c[len(c)-1]
		last.Mask += 1 << s.bit
		if a[s] {
			last.Value += 1 << s.bit
		}
	}
	return c
}

// row is the spots: fields rising, the greatest bit of a field first.
func (a asks) row() []spot {
	return slices.SortedFunc(maps.Keys(a), func(x, y spot) int {
		return cmp.Or(cmp.Compare(x.field, y.field), cmp.Compare(y.bit, x.bit))
	})
}

func modelMeets(a, b asks) bool {
	for s, want := range a {
		if other, both := b[s]; both && other != want {
			return false
		}
	}
	return true
}

func modelBoth(a, b asks) asks {
	c := maps.Clone(a)
	maps.Copy(c, b)
	return c
}

func modelCut(a, b asks) []asks {
	if !modelMeets(a, b) {
		return []asks{a}
	}
	var left []asks
	ahead := asks{}
	for _, s := range b.row() {
		if _, both := a[s]; both {
			continue
		}
		c := modelBoth(a, ahead)
		c[s] = !b[s]
		left = append(left, c)
		ahead[s] = b[s]
	}
	return left
}

// modelCubes is the cubes of a right predicate; false, if it is too big.
func modelCubes(p api.Pred) ([]api.Cube, bool) {
	var lists [][]asks
	for _, n := range p.Nodes {
		list, ok := modelList(n, lists)
		if !ok {
			return nil, false
		}
		lists = append(lists, list)
	}
	var l []api.Cube
	for _, c := range lists[len(lists)-1] {
		l = append(l, c.cube())
	}
	return l, true
}

func modelList(n api.PredNode, lists [][]asks) ([]asks, bool) {
	switch n.Kind {
	case api.Every:
		return []asks{{}}, true
	case api.Is:
		return []asks{asksOf(n.Test)}, true
	case api.And:
		return modelAnd(n, lists)
	case api.Or:
		return modelOr(n, lists)
	case api.Not:
		return modelLeft([]asks{{}}, lists[n.Subs[0]])
	}
	return nil, true
}

func modelAnd(n api.PredNode, lists [][]asks) ([]asks, bool) {
	list := []asks{{}}
	for _, sub := range n.Subs {
		var next []asks
		for _, a := range list {
			for _, b := range lists[sub] {
				if modelMeets(a, b) {
					next = append(next, modelBoth(a, b))
				}
			}
		}
		if len(next) > 128 {
			return nil, false
		}
		list = next
	}
	return list, true
}

func modelOr(n api.PredNode, lists [][]asks) ([]asks, bool) {
	var list []asks
	for _, sub := range n.Subs {
		left, ok := modelLeft(lists[sub], list)
		list = append(list, left...)
		if !ok || len(list) > 128 {
			return nil, false
		}
	}
	return list, true
}

func modelLeft(list, gone []asks) ([]asks, bool) {
	for _, b := range gone {
		var left []asks
		for _, a := range list {
			left = append(left, modelCut(a, b)...)
		}
		if len(left) > 128 {
			return nil, false
		}
		list = left
	}
	return list, true
}
