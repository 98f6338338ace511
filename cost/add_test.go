package cost

import (
	"math"
	"math/rand"
	"slices"
	"testing"
)

func checkAdd(t *testing.T, a, b, want float64) {
	t.Helper()
	if got := Add(a, b); !same(got, want) {
		t.Errorf("Add(%v, %v): %v (%016x), not %v (%016x)", a, b, got, math.Float64bits(got), want, math.Float64bits(want))
	}
	if got := Add(b, a); !same(got, want) {
		t.Errorf("Add(%v, %v): %v (%016x), not %v (%016x)", b, a, got, math.Float64bits(got), want, math.Float64bits(want))
	}
}

func TestAdd(t *testing.T) { // P15.2
	for _, c := range [][3]float64{
		{1, 2, 3},
		{0.5, 0.25, 0.75},
		{0.1, 0.2, 0.30000000000000004},
		{1e9, 0.5, 1000000000.5},
		{0, 1, 1},
		{minusNought, 1, 1},
		{greatest, 0, greatest},
		{greatest, minusNought, greatest},
		{tiniest, 0, tiniest},
		{tiniest, minusNought, tiniest},
		{tiniest, tiniest, 2 * tiniest},
		{tiniest, 1, 1},
		{tiniest, greatest, greatest},
		{power(-1022) - tiniest, tiniest, power(-1022)}, // from below the least normal one on
		{power(-1022) - tiniest, 2 * tiniest, power(-1022) + tiniest},
		{power(-1023), power(-1023), power(-1022)},
		{power(-1023) + tiniest, power(-1023) - 2*tiniest, power(-1022) - tiniest},
	} {
		checkAdd(t, c[0], c[1], c[2])
	}
}

func TestNoughts(t *testing.T) { // P15.2
	for _, a := range []float64{0, minusNought} {
		checkNumber(t, "Sum of a nought", Sum(a), 0)
		for _, b := range []float64{0, minusNought} {
			checkAdd(t, a, b, 0)
			checkNumber(t, "Sum of noughts", Sum(a, b, a), 0)
		}
	}
}

func TestSumsBetweenTwo(t *testing.T) { // P15.2: of two that are equally near, the one whose last bit is 0
	for n := -1021; n <= 970; n++ {
		// The float64 from 2^(n+52) on are 2^n apart.
		step, low := power(n), power(n+52)
		half := step / 2
		checkAdd(t, low, half, low)                              // 0 below
		checkAdd(t, low+step, half, low+2*step)                  // 0 above
		checkAdd(t, low+2*step, half, low+2*step)                //
		checkAdd(t, low, step+half, low+2*step)                  //
		checkAdd(t, low, math.Nextafter(half, 0), low)           // just below
		checkAdd(t, low+step, math.Nextafter(half, 0), low+step) //
		checkAdd(t, low, next(half), low+step)                   // just above
		checkAdd(t, low+step, next(half), low+2*step)            //
		checkAdd(t, 2*low-step, half, 2*low)                     // the next power of two
		checkAdd(t, 2*low, half, 2*low)                          // a quarter
		checkAdd(t, 2*low, step+half, 2*low+2*step)              // three quarters
	}
}

func TestGreatSums(t *testing.T) { // P15.2: infinity from 2^1024 less 2^970 on
	half := power(970)
	checkAdd(t, greatest, half, infinity)
	checkAdd(t, greatest, next(half), infinity)
	checkAdd(t, greatest, math.Nextafter(half, 0), greatest)
	checkAdd(t, greatest, power(969), greatest)
	checkAdd(t, greatest, 1, greatest)
	checkAdd(t, greatest, greatest, infinity)
	checkAdd(t, power(1023), power(1023), infinity)
	checkAdd(t, power(1023), power(1023)-power(970), infinity)
	checkAdd(t, power(1023), power(1023)-power(971), greatest)
	checkAdd(t, power(1023)+power(971), power(1023)-2*power(971), greatest)
	checkAdd(t, power(1023)+power(971), power(1023)-power(970)-power(971), infinity)
	checkAdd(t, power(1022), power(1022), power(1023))
}

func TestAddOfWhatIsNoCost(t *testing.T) { // P15.2: infinity, never minus infinity or NaN
	for _, a := range noCosts() {
		for _, b := range edges() {
			checkAdd(t, a, b, infinity)
		}
	}
}

func TestAddIsAsTheWordsSay(t *testing.T) { // P15.2: each with each, and many drawn ones
	for _, a := range edges() {
		for _, b := range edges() {
			checkAdd(t, a, b, modelAdd(a, b))
		}
	}
	r := rand.New(rand.NewSource(152))
	for range 50000 {
		a, b := drawn(r), drawn(r)
		checkAdd(t, a, b, modelAdd(a, b))
	}
	for range 300000 {
		a, b := drawnPair(r)
		checkAdd(t, a, b, modelAdd(a, b))
	}
}

func checkSum(t *testing.T, want float64, l ...float64) {
	t.Helper()
	if got := Sum(l...); !same(got, want) {
		t.Errorf("Sum(%v): %v (%016x), not %v (%016x)", l, got, math.Float64bits(got), want, math.Float64bits(want))
	}
}

func TestSum(t *testing.T) { // P15.2
	checkSum(t, 0)
	checkSum(t, 0, []float64{}...)
	for _, x := range someCosts() {
		checkSum(t, math.Abs(x), x)
	}
	for _, x := range noCosts() {
		checkSum(t, infinity, x)
	}
	checkSum(t, 0.75, 0.5, 0.25)
	checkSum(t, 15, 1, 2, 3, 4, 5)
	checkSum(t, infinity, greatest, greatest)
	checkSum(t, infinity, greatest, power(970), 0)
}

func TestSumGoesByTheRow(t *testing.T) { // P15.2: from 0 on, each to what came ahead
	big := power(53)
	checkSum(t, big, big, 1, 1)
	checkSum(t, big+2, 1, 1, big)
	checkSum(t, big, 1, big, 1)
	checkSum(t, big, big, 1, 1, 1, 1)
	checkSum(t, big+4, 1, 1, 1, 1, big)
	checkSum(t, 0.6000000000000001, 0.1, 0.2, 0.3)
	checkSum(t, 0.6, 0.3, 0.2, 0.1)
	half := power(969)
	checkSum(t, greatest, greatest, half, half)
	checkSum(t, infinity, half, half, greatest)
}

func TestSumWithWhatIsNoCost(t *testing.T) { // P15.2: at each place
	for _, x := range noCosts() {
		for place := range 6 {
			l := []float64{1, 0, 0.5, minusNought, greatest}
			checkSum(t, infinity, slices.Insert(l, place, x)...)
			checkSum(t, infinity, append(slices.Insert(l, place, x), x)...)
		}
	}
}

func TestSumIsAsTheWordsSay(t *testing.T) { // P15.2
	r := rand.New(rand.NewSource(1520))
	for i := range 5000 {
		l := make([]float64, i%12)
		size := r.Intn(0x7c0)
		for j := range l {
			l[j] = math.Float64frombits(uint64(size+r.Intn(60))<<52 | drawnPart(r))
		}
		checkSum(t, modelSum(l...), l...)
		if len(l) > 0 {
			l[r.Intn(len(l))] = drawn(r)
			checkSum(t, modelSum(l...), l...)
		}
	}
}

func TestManyAdded(t *testing.T) { // P15.2, Limits
	l := make([]float64, 5000000)
	for i := range l {
		l[i] = 1
	}
	checkSum(t, 5000000, l...)
	l[0] = power(53)
	checkSum(t, power(53), l...)
	l[0], l[len(l)-1] = 1, power(53)
	checkSum(t, power(53)+5000000, l...) // 4999999 is odd: of two that are equally near, the one above
	l[len(l)-1] = -1
	checkSum(t, infinity, l...)
}
