package cost

import (
	"math/rand"
	"slices"
	"testing"
)

func TestExamples(t *testing.T) { // the document's section 'Examples'
	checkLess(t, minusNought, 0, false)
	checkLess(t, 1, nan, true)
	checkLess(t, nan, nan, false)
	checkLess(t, minusInf, -1, true)
	checkAdd(t, 1, 2, 3)
	checkAdd(t, minusNought, minusNought, 0)
	checkAdd(t, 1, -1, infinity)
	checkAdd(t, 1, nan, infinity)
	checkAdd(t, 9007199254740992, 1, 9007199254740992)
	checkAdd(t, 9007199254740994, 1, 9007199254740996)
	checkAdd(t, greatest, greatest, infinity)
	checkSum(t, 0)
	checkSum(t, 0.75, 0.5, 0.25)
	checkSum(t, infinity, 1, infinity, 2)
	checkLeast(t, -1)
	checkLeast(t, 1, 3, 1, 1)
	checkLeast(t, 0, nan, nan)
	checkOrder(t, []float64{2, nan, minusNought, 0, 1}, 2, 3, 4, 0, 1)
}

func sameRow(a, b []float64) bool { return slices.EqualFunc(a, b, same) }

func TestRowsStay(t *testing.T) { // R2: to the last bit, and behind their lengths, too
	r := rand.New(rand.NewSource(2))
	for range 500 {
		l := drawnRow(r, 1+r.Intn(60))
		want := slices.Clone(l)
		for n := range len(l) + 1 {
			Sum(l[:n]...)
			Least(l[:n]...)
			Order(l[:n])
		}
		if !sameRow(l, want) {
			t.Fatalf("%v, not %v", l, want)
		}
	}
}

func TestAnsweredPlacesAreTheCallers(t *testing.T) { // R2: what becomes of them, and of the row, is not seen elsewhere
	l := []float64{3, nan, 1, minusNought, 2, 0}
	want := []int{3, 5, 2, 4, 0, 1}
	first, second := Order(l), Order(l)
	all := first[:cap(first)]
	for i := range all {
		all[i] = 77
	}
	if !slices.Equal(second, want) {
		t.Errorf("%v, not %v", second, want)
	}
	checkOrder(t, l, want...)
	for i := range l {
		l[i] = -float64(i)
	}
	if !slices.Equal(second, want) {
		t.Errorf("%v, not %v", second, want)
	}
	checkOrder(t, l, 5, 4, 3, 2, 1, 0)
}

func TestSameCallsSameAnswers(t *testing.T) { // R3: whatever was asked ahead
	r := rand.New(rand.NewSource(3))
	for range 300 {
		l, other := drawnRow(r, r.Intn(40)), drawnRow(r, r.Intn(40))
		sum, least, order := Sum(l...), Least(l...), Order(l)
		Sum(other...)
		Least(other...)
		Order(other)
		checkSum(t, sum, l...)
		checkLeast(t, least, l...)
		checkOrder(t, l, order...)
	}
}

func FuzzThreeNumbers(f *testing.F) { // R1, P15.1 to P15.4
	for _, a := range someCosts() {
		f.Add(a, 1.0, nan)
	}
	f.Fuzz(func(t *testing.T, a, b, c float64) {
		checkRight(t, a, modelRight(a))
		checkLess(t, a, b, modelLess(a, b))
		checkAdd(t, a, b, modelAdd(a, b))
		checkSum(t, modelSum(a, b, c), a, b, c)
		l := []float64{a, b, c, b, -a}
		checkLeast(t, modelLeast(l...), l...)
		checkOrder(t, l, modelOrder(l)...)
		checkOf(t, a, b, c)
		checkOfSums(t, a, b, c)
	})
}
