package pred

import (
	"math/rand"
	"testing"

	"drover/api"
)

// checkFollows is the first half of P16.6, of some values.
func checkFollows(t *testing.T, p api.Pred, l []api.Cube, vals []uint64) {
	t.Helper()
	want := 0
	if Eval(p, vals) {
		want = 1
	}
	if got := timesIn(l, vals); got != want {
		t.Errorf("%v: %x are in %d of %x, not in %d", p, vals, got, l, want)
	}
}

func TestTrueJustInOneCube(t *testing.T) { // P16.6: of all values of the bits that are asked
	r := rand.New(rand.NewSource(1661))
	for i := range 4000 {
		spots := someSpots(r, 1+r.Intn(7))
		p := anyPred(r, spots, 30, 5)
		if i%2 == 0 {
			p = anyTree(r, spots, 3)
		}
		l, e := Cubes(p)
		if e != api.OK {
			// So few bits have no more than 128 values, and each value is in at most one cube of a list.
			t.Fatalf("Cubes(%v): %v", p, e)
		}
		for n := range 1 << len(spots) {
			vals := valuesOf(r, spots, n)
			checkFollows(t, p, l, vals)
			checkFollows(t, p, l, vals[:r.Intn(11)])
		}
	}
}

func TestWideTrueJustInOneCube(t *testing.T) { // P16.6: of values of each cube, and of such beside them
	r := rand.New(rand.NewSource(1662))
	for range 1500 {
		p := anyWide(r)
		l, _ := Cubes(p)
		if len(l) == 0 {
			continue
		}
		for i := range 40 {
			vals := Pick(l[i%len(l)])
			checkFollows(t, p, l, vals)
			vals[1+r.Intn(9)] ^= 1 << r.Intn(64)
			checkFollows(t, p, l, vals)
			vals[1+r.Intn(9)] ^= full << r.Intn(64)
			checkFollows(t, p, l, vals)
			vals[1+r.Intn(9)] = r.Uint64()
			checkFollows(t, p, l, vals)
		}
	}
}

func TestEachCubeIsTrue(t *testing.T) { // P16.6
	r := rand.New(rand.NewSource(1663))
	for range 1500 {
		p := anyWide(r)
		l, _ := Cubes(p)
		for i, a := range l {
			if !Eval(p, Pick(a)) {
				t.Errorf("%v: false of %x, which is in its cube %x", p, Pick(a), a)
			}
			for _, b := range l[:i] {
				if both, ok := Meet(a, b); ok {
					t.Errorf("%v: %x and %x meet: %x", p, a, b, both)
				}
			}
		}
	}
}

func TestDisjointJustIfNoValuesAreTrueOfBoth(t *testing.T) { // P16.6
	r := rand.New(rand.NewSource(1664))
	apart := 0
	for range 4000 {
		spots := someSpots(r, 1+r.Intn(7))
		p, q := anyTree(r, spots, 2), anyTree(r, spots, 2)
		want := true
		for n := range 1 << len(spots) {
			vals := valuesOf(r, spots, n)
			want = want && !(Eval(p, vals) && Eval(q, vals))
		}
		checkDisjoint(t, p, q, want, api.OK)
		if want {
			apart++
		}
	}
	if apart < 400 || apart > 3600 {
		t.Errorf("%d of 4000 are disjoint", apart)
	}
}

func TestSameValuesSameAnswers(t *testing.T) { // P16.6: two ways to say one thing are true of the same values
	r := rand.New(rand.NewSource(1665))
	for range 1000 {
		spots := someSpots(r, 1+r.Intn(7))
		p, q := anyTree(r, spots, 2), anyTree(r, spots, 2)
		checkDisjoint(t, p, Not(p), true, api.OK)
		checkDisjoint(t, And(p, Not(q)), And(q, Not(p)), true, api.OK)
		checkDisjoint(t, And(Not(p), Not(q)), Or(p, q), true, api.OK)
		checkDisjoint(t, Or(Not(p), Not(q)), And(p, q), true, api.OK)
		checkDisjoint(t, Not(Not(p)), Not(p), true, api.OK)
	}
}
