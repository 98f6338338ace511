package pred

import (
	"math/rand"
	"slices"
	"testing"

	"drover/api"
)

func checkCubes(t *testing.T, p api.Pred, want ...api.Cube) {
	t.Helper()
	got, e := Cubes(p)
	if e != api.OK {
		t.Errorf("Cubes(%v): %v", p, e)
	}
	checkCubeList(t, "Cubes", got, want...)
}

// checkSize is about how many cubes there are; above 128 it is ErrBig.
func checkSize(t *testing.T, p api.Pred, want int) {
	t.Helper()
	if want > 128 {
		checkCubesError(t, p, api.ErrBig)
		return
	}
	if l, e := Cubes(p); e != api.OK || len(l) != want {
		t.Errorf("Cubes(%v): %d, %v, not %d", p, len(l), e, want)
	}
}

func checkCubesError(t *testing.T, p api.Pred, want api.Errno) {
	t.Helper()
	if l, e := Cubes(p); e != want || len(l) != 0 {
		t.Errorf("Cubes(%v): %d, %v, not %v", p, len(l), e, want)
	}
}

func TestCubesOfKinds(t *testing.T) { // P16.4
	checkCubes(t, of(node(api.Every)), api.Cube{})
	checkCubes(t, of(node(api.Never)))
	checkCubes(t, And(), api.Cube{})
	checkCubes(t, Or())
	checkCubes(t, Is(port(1, 1)), api.Cube{port(1, 1)})
	checkCubes(t, Is(at(api.Meta, 0, full)), api.Cube{at(api.Meta, 0, full)})
	checkCubes(t, Not(of(node(api.Every))))
	checkCubes(t, Not(of(node(api.Never))), api.Cube{})
	checkCubes(t, And(of(node(api.Every))), api.Cube{})
	checkCubes(t, And(of(node(api.Never))))
	checkCubes(t, Or(of(node(api.Every))), api.Cube{})
	checkCubes(t, Or(of(node(api.Never))))
	checkCubes(t, Not(Is(port(2, 3))), api.Cube{port(0, 2)}, api.Cube{port(3, 3)})
}

func TestCubesOfMasksOfNoBit(t *testing.T) { // P16.4: the cube of no test
	for field := api.InPort; field <= api.Dport; field++ {
		nought, one := Is(at(field, 0, 0)), Is(port(1, 1))
		checkCubes(t, nought, api.Cube{})
		checkCubes(t, Not(nought))
		checkCubes(t, Not(Not(nought)), api.Cube{})
		checkCubes(t, And(one, nought), api.Cube{port(1, 1)})
		checkCubes(t, And(nought, one), api.Cube{port(1, 1)})
		checkCubes(t, Or(one, nought), api.Cube{port(1, 1)}, api.Cube{port(0, 1)})
		checkCubes(t, Or(nought, one), api.Cube{})
	}
}

func TestCubesOfAnd(t *testing.T) { // P16.4: of each cube of the list, in order, each of that one's, in order
	a := Or(Is(port(1, 1)), Is(port(2, 2)))
	b := Or(Is(at(api.Src, 0, 1)), Is(at(api.Src, 3, 3)), Is(at(api.Src, 1, 1)))
	checkCubes(t, b, api.Cube{at(api.Src, 0, 1)}, api.Cube{at(api.Src, 3, 3)}, api.Cube{at(api.Src, 1, 3)})
	checkCubes(t, And(a, b),
		api.Cube{at(api.Src, 0, 1), port(1, 1)}, api.Cube{at(api.Src, 3, 3), port(1, 1)}, api.Cube{at(api.Src, 1, 3), port(1, 1)},
		api.Cube{at(api.Src, 0, 1), port(2, 3)}, api.Cube{at(api.Src, 3, 3), port(2, 3)}, api.Cube{at(api.Src, 1, 3), port(2, 3)})
	checkCubes(t, And(b, a),
		api.Cube{at(api.Src, 0, 1), port(1, 1)}, api.Cube{at(api.Src, 0, 1), port(2, 3)},
		api.Cube{at(api.Src, 3, 3), port(1, 1)}, api.Cube{at(api.Src, 3, 3), port(2, 3)},
		api.Cube{at(api.Src, 1, 3), port(1, 1)}, api.Cube{at(api.Src, 1, 3), port(2, 3)})
	checkCubes(t, And(b, Is(at(api.Src, 2, 2)), a), // one of b does not meet it
		api.Cube{at(api.Src, 2, 3), port(1, 1)}, api.Cube{at(api.Src, 2, 3), port(2, 3)},
		api.Cube{at(api.Src, 3, 3), port(1, 1)}, api.Cube{at(api.Src, 3, 3), port(2, 3)})
	checkCubes(t, And(a, Not(a)))
	checkCubes(t, And(a, a), api.Cube{port(1, 1)}, api.Cube{port(2, 3)})
}

func TestCubesOfOr(t *testing.T) { // P16.4: of each part what is left of it without the list as it was
	one, two := Is(port(1, 1)), Is(port(2, 2))
	checkCubes(t, Or(one, two), api.Cube{port(1, 1)}, api.Cube{port(2, 3)})
	checkCubes(t, Or(two, one), api.Cube{port(2, 2)}, api.Cube{port(1, 3)})
	checkCubes(t, Or(one, one), api.Cube{port(1, 1)})
	checkCubes(t, Or(one, Not(one)), api.Cube{port(1, 1)}, api.Cube{port(0, 1)})
	checkCubes(t, Or(Is(port(5, 5)), one), api.Cube{port(5, 5)}, api.Cube{port(1, 5)})
	checkCubes(t, Or(one, Is(port(5, 5))), api.Cube{port(1, 1)})
	checkCubes(t, Or(one, of(node(api.Every)), two), api.Cube{port(1, 1)}, api.Cube{port(0, 1)})
	// Cube by cube of the list, in order: first without 1/1, then without 4/5.
	checkCubes(t, Or(Or(one, Is(port(4, 4))), of(node(api.Every))),
		api.Cube{port(1, 1)}, api.Cube{port(4, 5)}, api.Cube{port(0, 5)})
	// Without 16/16, then without 1/17; each cube of the part in its place.
	part := Or(Is(port(2, 2)), Is(port(4, 4)))
	checkCubes(t, Or(Is(port(16, 16)), Is(port(1, 1)), part),
		api.Cube{port(16, 16)}, api.Cube{port(1, 17)}, api.Cube{port(2, 19)}, api.Cube{port(4, 23)})
	checkCubes(t, Or(Is(port(6, 6)), Not(Is(port(3, 3)))),
		api.Cube{port(6, 6)}, api.Cube{port(0, 2)}, api.Cube{port(2, 7)})
}

func TestCubesOfNot(t *testing.T) { // P16.4: without each cube of the part, in order
	checkCubes(t, Not(And(Is(at(api.Src, 1, 1)), Is(port(2, 3)))),
		api.Cube{at(api.Src, 0, 1)}, api.Cube{at(api.Src, 1, 1), port(0, 2)}, api.Cube{at(api.Src, 1, 1), port(3, 3)})
	// Without 1/1 that is 0/1; of this, without 4/5, 0/5.
	checkCubes(t, Not(Or(Is(port(1, 1)), Is(port(4, 4)))), api.Cube{port(0, 5)})
	// Without 6/6 that is 0/4 and 4/6; without 0/6 of the first 2/6, and the second alone.
	checkCubes(t, Not(Or(Is(port(6, 6)), Is(port(0, 6)))), api.Cube{port(2, 6)}, api.Cube{port(4, 6)})
	checkCubes(t, Not(Not(Is(port(2, 3)))), api.Cube{port(2, 3)})
	// That of 1/1 and 2/3 is 0/3.
	checkCubes(t, Not(Or(Is(port(1, 1)), Is(port(2, 2)))), api.Cube{port(0, 3)})
	checkCubes(t, Not(Not(Or(Is(port(1, 1)), Is(port(2, 2))))), api.Cube{port(2, 2)}, api.Cube{port(1, 3)})
}

func TestCubesOfPartsNamedTwice(t *testing.T) { // P16.4
	first, second := leaf(port(1, 1)), leaf(port(2, 2))
	checkCubes(t, of(first, node(api.And, 0, 0)), api.Cube{port(1, 1)})
	checkCubes(t, of(first, node(api.Or, 0, 0)), api.Cube{port(1, 1)})
	checkCubes(t, of(first, second, node(api.Or, 0, 1, 0, 1)), api.Cube{port(1, 1)}, api.Cube{port(2, 3)})
	checkCubes(t, of(first, second, node(api.Or, 0, 1), node(api.And, 2, 2, 2)), api.Cube{port(1, 1)}, api.Cube{port(2, 3)})
	checkCubes(t, of(first, node(api.Not, 0), node(api.And, 0, 1)))
	checkCubes(t, of(first, node(api.Not, 0), node(api.Or, 1, 0, 1)), api.Cube{port(0, 1)}, api.Cube{port(1, 1)})
	checkCubes(t, of(first, second, node(api.And, 0, 1), node(api.Or, 2, 0, 1)), api.Cube{port(3, 3)}, api.Cube{port(1, 3)}, api.Cube{port(2, 3)})
	for _, kind := range []int{api.And, api.Or} {
		p := chain(1)
		for place := 1; place < 60; place++ {
			p.Nodes = append(p.Nodes, node(kind, slices.Repeat([]int{place - 1}, 12)...))
		}
		checkCubes(t, p, api.Cube{port(1, 1)})
	}
}

func TestCubesOfTheLast(t *testing.T) { // P16.4: what the last one does not lead to is not in the list
	checkCubes(t, of(leaf(port(1, 1)), leaf(port(2, 2))), api.Cube{port(2, 2)})
	checkCubes(t, of(node(api.Every), node(api.Never)))
	checkCubes(t, of(leaf(port(1, 1)), leaf(port(2, 2)), node(api.Or, 0, 1), node(api.Not, 0)), api.Cube{port(0, 1)})
	for n := 1; n <= 60; n++ {
		checkCubes(t, chain(n), api.Cube{port(uint64(n%2), 1)})
	}
}

func TestManyIsSoMany(t *testing.T) {
	for n := 1; n <= 128; n++ {
		checkSize(t, many(n), n)
	}
}

// checkBig is about a list of so many cubes, by itself and where the last node does not lead to it, or makes few of it.
func checkBig(t *testing.T, p api.Pred, want int) {
	t.Helper()
	checkSize(t, p, want)
	last := len(p.Nodes) - 1
	for _, behind := range []api.PredNode{node(api.Never), node(api.Every), leaf(port(1, 1)), node(api.And), node(api.Or)} {
		q := of(append(slices.Clone(p.Nodes), behind)...)
		few, _ := Cubes(of(behind))
		if want > 128 {
			checkCubesError(t, q, api.ErrBig)
		} else {
			checkCubes(t, q, few...)
		}
	}
	few := of(append(slices.Clone(p.Nodes), node(api.Never), node(api.And, last, last+1))...)
	if want > 128 {
		checkCubesError(t, few, api.ErrBig)
	} else {
		checkCubes(t, few)
	}
	// ErrArg is named ahead, wherever it stands.
	for _, wrong := range []api.PredNode{{}, node(api.Not, last+1), leaf(port(2, 1)), node(api.Every, 0)} {
		checkCubesError(t, of(append(slices.Clone(p.Nodes), wrong)...), api.ErrArg)
		checkCubesError(t, of(append([]api.PredNode{wrong}, moved(p.Nodes, 1)...)...), api.ErrArg)
	}
}

func TestBigAnd(t *testing.T) { // P16.4: behind one of Subs
	ports := func(n int) api.Pred {
		var l []api.Pred
		for i := range n {
			l = append(l, Is(port(uint64(i), full)))
		}
		return Or(l...)
	}
	for _, c := range [][2]int{{64, 2}, {43, 3}, {65, 2}, {128, 1}, {16, 8}, {32, 4}, {26, 5}, {13, 10}, {127, 1}, {127, 2}} {
		checkBig(t, And(many(c[0]), ports(c[1])), c[0]*c[1])
		checkBig(t, And(ports(c[1]), many(c[0])), c[0]*c[1])
		checkBig(t, And(of(node(api.Every)), many(c[0]), And(), ports(c[1]), And()), c[0]*c[1])
	}
	// What comes behind makes few of it, but it was too many.
	none := of(node(api.Never))
	checkBig(t, And(many(64), ports(2), none), 128-128)
	checkCubesError(t, And(many(43), ports(3), none), api.ErrBig)
	checkCubesError(t, And(many(43), ports(3), Is(port(0, full))), api.ErrBig)
	checkSize(t, And(many(43), none, ports(3)), 0)
	checkSize(t, And(many(43), Is(port(0, full)), ports(3)), 43)
	checkSize(t, And(many(128), many(128)), 128)
}

func TestBigOr(t *testing.T) { // P16.4: behind one of Subs
	set, unset := Is(port(1, 1)), Is(port(0, 1))
	for _, c := range [][2]int{{64, 64}, {65, 64}, {64, 65}, {128, 1}, {1, 128}, {127, 1}, {127, 2}, {2, 127}, {128, 128}} {
		checkBig(t, Or(And(set, many(c[0])), And(unset, many(c[1]))), c[0]+c[1])
	}
	checkSize(t, Or(many(128)), 128)
	checkSize(t, Or(many(128), many(128)), 128)
	checkCubesError(t, Or(many(128), Is(at(api.Meta, full, full))), api.ErrBig)
	checkSize(t, Or(many(128), Is(at(api.Meta, 0, full))), 128)
}

func TestBigLeftOfOr(t *testing.T) { // P16.4: what is left of a part behind one cube, even if less is left behind the next one
	// So many bits, all of which are 1, and then one by one 0 behind some of 1: that is all there is, without a bit of Dport.
	all := func(bits int) []api.Pred { return []api.Pred{Not(many(bits)), many(bits)} }
	checkSize(t, Or(all(43)...), 44)
	three, two := Not(Is(port(7, 7))), Not(Is(port(3, 3)))
	checkSize(t, three, 3)
	checkBig(t, Or(append(all(43), three)...), 129)
	checkBig(t, Or(append(all(42), three)...), 43)
	checkBig(t, Or(append(all(64), two)...), 65)
	checkBig(t, Or(append(all(65), two)...), 130)
	checkBig(t, Or(append(all(127), of(node(api.Every)))...), 128)
	// Cubes that don't meet the one of the list count, too.
	apart := Or(two, And(Is(port(3, 3)), Is(at(api.Meta, 0, 1<<63))))
	checkSize(t, apart, 3)
	checkBig(t, Or(append(all(64), apart)...), 129)
	checkBig(t, Or(append(all(63), apart)...), 64)
	// Behind a later cube of the list: the first one is met by none.
	last := And(Is(at(api.InPort, 0, 1)), three)
	first := Is(at(api.InPort, 1, 1))
	checkSize(t, Or(first, And(Is(at(api.InPort, 0, 1)), Or(all(43)...)), And(last)), 129)
	checkSize(t, Or(first, And(Is(at(api.InPort, 0, 1)), Or(all(42)...)), And(last)), 44)
}

func TestBigNot(t *testing.T) { // P16.4: Not's list behind one cube
	ones := func(bits int) api.Pred {
		return And(Is(at(api.Meta, full<<(64-min(bits, 64)), full<<(64-min(bits, 64)))),
			Is(at(api.Src, full<<(128-min(bits, 128)), full<<(128-min(bits, 128)))),
			Is(port(full<<(192-bits), full<<(192-bits))))
	}
	for _, bits := range []int{127, 128, 129, 130, 191, 192} {
		checkSize(t, ones(bits), 1)
		checkBig(t, Not(ones(bits)), bits)
	}
	// Without the second cube one less is left, but it was too many.
	unset := Is(at(api.Meta, 0, 1<<63))
	checkCubesError(t, Not(Or(ones(129), unset)), api.ErrBig)
	checkSize(t, Not(Or(ones(128), unset)), 127)
	checkSize(t, Not(Or(unset, ones(129))), 128)
	checkSize(t, Not(Or(unset, ones(130))), 129)
	checkSize(t, Not(many(128)), 1)
	// Behind the second one.
	set := Is(at(api.Proto, 1, 1))
	checkSize(t, Not(Or(set, ones(128))), 128)
	checkSize(t, Not(Or(set, ones(129))), 129)
	checkSize(t, Not(Or(Is(at(api.Proto, 3, 3)), And(Is(at(api.Proto, 2, 3)), ones(127)))), 128)
	checkSize(t, Not(Or(Is(at(api.Proto, 3, 3)), And(Is(at(api.Proto, 2, 3)), ones(128)))), 129)
}

func TestGreatLists(t *testing.T) { // R1: all nodes as great as may be
	for _, kinds := range [][]int{{api.And, api.Or}, {api.Not}} {
		p := many(128)
		for place := len(p.Nodes); place < 60; place++ {
			n := node(kinds[place%len(kinds)], place-1)
			for len(n.Subs) < 12 && n.Kind != api.Not {
				n.Subs = append(n.Subs, place-1)
			}
			p.Nodes = append(p.Nodes, n)
		}
		checkSize(t, p, 128)
	}
}

func TestCubesAreAsTheWordsSay(t *testing.T) { // P16.4
	r := rand.New(rand.NewSource(164))
	great := 0
	for range 6000 {
		p := anyPred(r, someSpots(r, 1+r.Intn(12)), 20, 4)
		if r.Intn(2) == 0 {
			p = anyTree(r, someSpots(r, 4+r.Intn(12)), 3)
		}
		want, ok := modelCubes(p)
		if !ok {
			checkCubesError(t, p, api.ErrBig)
			continue
		}
		checkCubes(t, p, want...)
		if len(want) > 5 {
			great++
		}
	}
	if great < 500 {
		t.Errorf("only %d have more than 5 cubes", great)
	}
}

func TestGreatCubesAreAsTheWordsSay(t *testing.T) { // P16.4
	r := rand.New(rand.NewSource(1640))
	great, big := 0, 0
	for range 1500 {
		p := anyWide(r)
		want, ok := modelCubes(p)
		if !ok {
			checkCubesError(t, p, api.ErrBig)
			big++
			continue
		}
		checkCubes(t, p, want...)
		if len(want) > 50 {
			great++
		}
	}
	if great < 50 || big < 50 {
		t.Errorf("only %d have more than 50 cubes, and %d are too big", great, big)
	}
}

func TestCubesAreWhole(t *testing.T) { // P16.4: each as Whole has it
	r := rand.New(rand.NewSource(16400))
	for range 1000 {
		l, _ := Cubes(anyWide(r))
		for _, c := range l {
			if !Whole(c) || !modelWhole(c) {
				t.Errorf("%x is not whole", c)
			}
		}
	}
}
