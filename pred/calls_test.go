package pred

import (
	"math/rand"
	"slices"
	"testing"

	"drover/api"
)

func TestExamples(t *testing.T) { // the document's section 'Examples'
	one, two := Is(port(1, 1)), Is(port(2, 2))
	checkCubes(t, Or(one, two), api.Cube{port(1, 1)}, api.Cube{port(2, 3)})
	checkCubes(t, Not(Is(port(2, 3))), api.Cube{port(0, 2)}, api.Cube{port(3, 3)})
	checkCubes(t, And(), api.Cube{})
	checkCubes(t, Or())
	checkCut(t, nil, api.Cube{port(2, 3)}, api.Cube{port(0, 2)}, api.Cube{port(3, 3)})
	checkMeet(t, api.Cube{port(1, 1)}, api.Cube{port(2, 2)}, api.Cube{port(3, 3)})
	checkMeet(t, api.Cube{port(1, 1)}, api.Cube{port(0, 1)}, nil)
	checkDisjoint(t, one, two, false, api.OK)
	checkDisjoint(t, one, Not(one), true, api.OK)
	checkEval(t, Is(port(80, 65535)), []uint64{api.Dport: 80}, true)
	var all []api.Pred
	for i, field := range []int{api.Meta, api.Src, api.Dst} {
		all = append(all, Is(at(field, 0, full)))
		p := Not(And(all...))
		if want := 64 * (i + 1); want <= api.MaxCubes {
			checkSize(t, p, want)
		} else {
			checkCubesError(t, p, api.ErrBig)
		}
	}
}

func TestWhatIsHandedInStays(t *testing.T) { // R2: nor is what stands behind its length written into
	r := rand.New(rand.NewSource(2))
	for range 300 {
		spots := []spot{{1, 0}, {3, 0}, {5, 0}, {9, 0}}
		a, b := anyCube(r, spots), anyCube(r, spots)
		for len(a) < 3 || len(b) < 3 {
			a, b = anyCube(r, spots), anyCube(r, spots)
		}
		vals := valuesOf(r, spots, 0)
		p, q := anyTree(r, spots, 2), anyTree(r, spots, 2)
		wantA, wantB, wantVals, wantP, wantQ := slices.Clone(a), slices.Clone(b), slices.Clone(vals), clonePred(p), clonePred(q)
		for n := range 4 {
			Whole(a[:n])
			In(a[:n], vals[:n])
			Meet(a[:n], b[:3-n])
			Cut(a[:n], b[:3-n])
			Pick(a[:n])
		}
		Eval(p, vals[:5])
		Right(p)
		Cubes(p)
		Disjoint(p, q)
		if !slices.Equal(a, wantA) || !slices.Equal(b, wantB) || !slices.Equal(vals, wantVals) {
			t.Fatalf("%x %x %x, not %x %x %x", a, b, vals, wantA, wantB, wantVals)
		}
		checkPred(t, "p", p, wantP)
		checkPred(t, "q", q, wantQ)
	}
}

func TestAnsweredCubesAreTheCallers(t *testing.T) { // R2: none is in another one, nor in what was handed in
	a, b := api.Cube{at(api.Meta, 1, 1), port(1, 1)}, api.Cube{at(api.Src, 5, 7), port(6, 6)}
	p := Or(Is(port(1, 1)), Is(at(api.Src, 5, 7)), Not(Is(port(1, 3))))
	first, _ := Cubes(p)
	second, _ := Cubes(p)
	both, _ := Meet(a, b)
	again, _ := Meet(a, nil)
	apart := Cut(a, api.Cube{port(0, 1)})
	l := slices.Concat(first, second, Cut(a, b), Cut(a, b), apart, []api.Cube{both, again, a, b})
	want := cloneCubes(l)
	for i := range l {
		spoilCube(l[i])
		checkCubeList(t, "other cubes", l[i+1:], want[i+1:]...)
	}
	checkCubes(t, p, want[:len(first)]...)
}

func TestPickedValuesAreTheCallers(t *testing.T) { // R2
	c := api.Cube{at(api.Meta, 1, 1), port(6, 7)}
	first, second := Pick(c), Pick(c)
	first = first[:cap(first)]
	for i := range first {
		first[i] = 77
	}
	for _, l := range [][]uint64{second, Pick(c)} {
		if !slices.Equal(l, []uint64{0, 0, 1, 0, 0, 0, 0, 0, 0, 6}) {
			t.Errorf("%x", l)
		}
	}
}

func TestSameCallsSameAnswers(t *testing.T) { // R3: whatever was asked ahead
	r := rand.New(rand.NewSource(3))
	for range 300 {
		p, q := anyWide(r), anyWide(r)
		l, e := Cubes(p)
		apart, err := Disjoint(p, q)
		vals := []uint64{0, r.Uint64(), 2, 3}
		is := Eval(p, vals)
		Cubes(q)
		Eval(q, vals)
		Cubes(api.Pred{})
		if again, f := Cubes(p); f != e || !sameCubes(again, l) {
			t.Errorf("Cubes(%v): %x %v, and then %x %v", p, l, e, again, f)
		}
		checkDisjoint(t, p, q, apart, err)
		checkEval(t, p, vals, is)
	}
}

// predOf makes a predicate of bytes, right or not: of each node a Kind, a Field, a Value, a Mask, how many Subs and which.
func predOf(data []byte) api.Pred {
	var p api.Pred
	next := func() int {
		if len(data) == 0 {
			return 0
		}
		n := int(int8(data[0]))
		data = data[1:]
		return n
	}
	for len(data) > 0 {
		n := api.PredNode{Kind: next()}
		if n.Kind == api.Is || n.Kind < 0 {
			n.Test = at(next(), uint64(next()), uint64(next()))
		} else {
			for range next() & 15 {
				n.Subs = append(n.Subs, next())
			}
		}
		p.Nodes = append(p.Nodes, n)
	}
	return p
}

func FuzzPreds(f *testing.F) { // R1, P16.1 to P16.6
	f.Add([]byte{api.Every, 0}, []byte{api.Never, 0}, uint64(1))
	f.Add([]byte{api.Is, 9, 1, 1, api.Is, 9, 2, 3, api.And, 2, 0, 1, api.Not, 1, 2, api.Or, 3, 0, 1, 3}, []byte{api.Is, 2, 5, 255, api.Not, 1, 0}, uint64(3))
	f.Add([]byte{api.Is, 2, 0, 255, api.Is, 5, 0, 255, api.Is, 6, 0, 255, api.And, 3, 0, 1, 2, api.Not, 1, 3}, []byte{api.Is, 9, 2, 1}, uint64(0))
	f.Fuzz(func(t *testing.T, first, second []byte, value uint64) {
		p, q := predOf(first), predOf(second)
		if len(p.Nodes) > 25 || len(q.Nodes) > 25 {
			t.Skip("the model asks each way to a node")
		}
		checkRight(t, p, modelRight(p))
		checkPred(t, "And", And(p, q), modelJoin(api.And, p, q))
		checkPred(t, "Or", Or(p, q), modelJoin(api.Or, p, q))
		checkPred(t, "Not", Not(p), modelJoin(api.Not, p))
		vals := slices.Repeat([]uint64{value}, int(value%12))
		checkEval(t, p, vals, modelEval(p, vals))
		if !modelRight(p) {
			return
		}
		want, ok := modelCubes(p)
		if !ok {
			checkCubesError(t, p, api.ErrBig)
			return
		}
		checkCubes(t, p, want...)
		checkFollows(t, p, want, vals)
		if apart, e := Disjoint(p, q); apart && e == api.OK && Eval(p, vals) && Eval(q, vals) {
			t.Errorf("Disjoint(%v, %v), but both are true of %x", p, q, vals)
		}
	})
}
