package pred

import (
	"math"
	"math/rand"
	"slices"
	"testing"

	"drover/api"
)

const full = math.MaxUint64

// wide are numbers that are nothing's, and may go wrong where one counts with them.
var wide = []int{math.MinInt, math.MinInt + 1, math.MinInt32, -65536, -256, -64, -10, -1, 64, 255, 256, 65536, math.MaxInt32, 1 << 32, 1<<32 + 1, math.MaxInt - 1, math.MaxInt}

// port is a test of Dport, as the document's examples have it.
func port(v, m uint64) api.Test { return at(api.Dport, v, m) }

func at(field int, v, m uint64) api.Test { return api.Test{Field: field, Value: v, Mask: m} }

func node(kind int, subs ...int) api.PredNode { return api.PredNode{Kind: kind, Subs: subs} }

func leaf(t api.Test) api.PredNode { return api.PredNode{Kind: api.Is, Test: t} }

func of(nodes ...api.PredNode) api.Pred { return api.Pred{Nodes: nodes} }

// chain is a right predicate of so many nodes.
func chain(n int) api.Pred {
	p := of(leaf(port(1, 1)))
	for place := 1; place < n; place++ {
		p.Nodes = append(p.Nodes, node(api.Not, place-1))
	}
	return p
}

// many is a right predicate that has so many cubes (from 1 to 128), of which none asks a bit of Dport.
func many(n int) api.Pred {
	high := uint64(full) << (64 - min(n, 64))
	if n <= 64 {
		return of(leaf(at(api.Meta, high, high)), node(api.Not, 0))
	}
	low := uint64(full) << (64 - (n - 64))
	return of(leaf(at(api.Meta, high, high)), leaf(at(api.Src, low, low)), node(api.And, 0, 1), node(api.Not, 2))
}

func samePred(a, b api.Pred) bool {
	return slices.EqualFunc(a.Nodes, b.Nodes, func(x, y api.PredNode) bool {
		return x.Kind == y.Kind && x.Test == y.Test && slices.Equal(x.Subs, y.Subs)
	})
}

func clonePred(p api.Pred) api.Pred {
	nodes := slices.Clone(p.Nodes)
	for i := range nodes {
		nodes[i].Subs = slices.Clone(nodes[i].Subs)
	}
	return api.Pred{Nodes: nodes}
}

// spoilPred writes over all of a predicate, and behind the lengths of its lists.
func spoilPred(p api.Pred) {
	nodes := p.Nodes[:cap(p.Nodes)]
	for i := range nodes {
		subs := nodes[i].Subs[:cap(nodes[i].Subs)]
		for k := range subs {
			subs[k] = 77
		}
		nodes[i] = api.PredNode{Kind: 77, Test: at(77, 77, 77)}
	}
}

func spoilCube(c api.Cube) {
	c = c[:cap(c)]
	for i := range c {
		c[i] = at(77, 77, 77)
	}
}

func sameCubes(a, b []api.Cube) bool {
	return slices.EqualFunc(a, b, func(x, y api.Cube) bool { return slices.Equal(x, y) })
}

func cloneCubes(l []api.Cube) []api.Cube {
	var c []api.Cube
	for _, x := range l {
		c = append(c, slices.Clone(x))
	}
	return c
}

func checkPred(t *testing.T, what string, got, want api.Pred) {
	t.Helper()
	if !samePred(got, want) {
		t.Errorf("%s: %v, not %v", what, got, want)
	}
}

func checkCubeList(t *testing.T, what string, got []api.Cube, want ...api.Cube) {
	t.Helper()
	if !sameCubes(got, want) {
		t.Errorf("%s: %x, not %x", what, got, want)
	}
}

// someSpots are so many, of one field or of some, and not all beside one another.
func someSpots(r *rand.Rand, n int) []spot {
	var l []spot
	for len(l) < n {
		s := spot{1 + r.Intn(9), []int{0, 1, 2, 31, 32, 62, 63, r.Intn(64)}[r.Intn(8)]}
		if r.Intn(2) == 0 && len(l) > 0 {
			s.field = l[0].field
		}
		if !slices.Contains(l, s) {
			l = append(l, s)
		}
	}
	return l
}

// valuesOf are those whose spots are the bits of n; the other bits are drawn.
func valuesOf(r *rand.Rand, spots []spot, n int) []uint64 {
	vals := make([]uint64, 10)
	for i := range vals {
		vals[i] = r.Uint64()
	}
	for i, s := range spots {
		vals[s.field] &^= 1 << s.bit
		vals[s.field] |= uint64(n>>i&1) << s.bit
	}
	return vals
}

// anyTest is right, and asks some of the spots of one field, maybe none.
func anyTest(r *rand.Rand, spots []spot) api.Test {
	t := api.Test{Field: spots[r.Intn(len(spots))].field}
	for _, s := range spots {
		if s.field == t.Field && r.Intn(3) > 0 {
			t.Mask |= 1 << s.bit
		}
	}
	t.Value = r.Uint64() & t.Mask
	return t
}

// anyPred is right, of up to so many nodes, each of up to so many parts.
func anyPred(r *rand.Rand, spots []spot, most, parts int) api.Pred {
	var p api.Pred
	for place := range 1 + r.Intn(most) {
		p.Nodes = append(p.Nodes, anyNode(r, spots, place, parts))
	}
	return p
}

func anyNode(r *rand.Rand, spots []spot, place, parts int) api.PredNode {
	switch kind := r.Intn(30); {
	case kind == 0:
		return node(api.Every)
	case kind == 1:
		return node(api.Never)
	case kind < 6 || place < 1+r.Intn(4):
		return leaf(anyTest(r, spots))
	case kind < 12:
		return node(api.Not, r.Intn(place))
	default:
		n := node([]int{api.And, api.Or}[kind%2])
		for range r.Intn(parts + 1) {
			n.Subs = append(n.Subs, r.Intn(place))
		}
		return n
	}
}

// anyTree is right, and has more cubes than most that anyPred draws.
func anyTree(r *rand.Rand, spots []spot, deep int) api.Pred {
	if deep == 0 || r.Intn(8) == 0 {
		return of(leaf(anyTest(r, spots)))
	}
	var parts []api.Pred
	for range 1 + r.Intn(4) {
		parts = append(parts, anyTree(r, spots, deep-1))
	}
	p := modelJoin([]int{api.And, api.Or, api.Or}[r.Intn(3)], parts...)
	if r.Intn(3) == 0 {
		p = modelJoin(api.Not, p)
	}
	if len(p.Nodes) == 0 {
		return parts[0]
	}
	return p
}

// anyWide is right, and of tests of many bits.
func anyWide(r *rand.Rand) api.Pred {
	p := anyTree(r, someSpots(r, 3+r.Intn(4)), 2+r.Intn(2))
	for i := range p.Nodes {
		if x := &p.Nodes[i].Test; p.Nodes[i].Kind == api.Is && r.Intn(4) == 0 {
			x.Mask = full << (32 + r.Intn(32))
			x.Value = []uint64{0, full, r.Uint64()}[r.Intn(3)] & x.Mask
		}
	}
	return p
}

// anyCube is whole.
func anyCube(r *rand.Rand, spots []spot) api.Cube {
	a := asks{}
	for _, s := range spots {
		if r.Intn(2) == 0 {
			a[s] = r.Intn(2) == 0
		}
	}
	return a.cube()
}
