package cost

import (
	"math"
	"math/rand"
	"testing"
)

const (
	greatest = math.MaxFloat64
	tiniest  = math.SmallestNonzeroFloat64
)

var (
	infinity    = math.Inf(1)
	minusInf    = math.Inf(-1)
	minusNought = math.Copysign(0, -1)
	nan         = math.NaN()
)

// nans are of other bits: of both signs, quiet or not, with the least and the most bits set.
func nans() []float64 {
	l := []float64{nan}
	for _, bits := range []uint64{infinityBits + 1, infinityBits + 1<<51, infinityBits + 1<<52 - 1, infinityBits + 12345} {
		l = append(l, math.Float64frombits(bits), math.Float64frombits(signBit|bits))
	}
	return l
}

// noCosts are all kinds of them.
func noCosts() []float64 {
	return append(nans(), infinity, minusInf, -1, -tiniest, -greatest, -0.5, -math.Float64frombits(1<<52))
}

// someCosts are those at the edges of the float64.
func someCosts() []float64 {
	l := []float64{0, minusNought, greatest, tiniest, 2 * tiniest, 3 * tiniest, 0.1, 0.2, 0.3, 1e9, 1e16, power(-1022) - tiniest, power(-1022), power(-1022) + tiniest}
	for _, n := range []int{-1074, -1073, -1023, -1021, -537, -54, -53, -52, -1, 0, 1, 52, 53, 54, 511, 918, 969, 970, 971, 972, 1022, 1023} {
		x := power(n)
		l = append(l, x, math.Nextafter(x, 0), math.Nextafter(x, infinity))
	}
	return l
}

// edges are costs and no costs.
func edges() []float64 { return append(noCosts(), someCosts()...) }

func power(n int) float64 { return math.Ldexp(1, n) }

func next(x float64) float64 { return math.Float64frombits(math.Float64bits(x) + 1) }

// drawn is any float64, by its bits; there are many that are no cost.
func drawn(r *rand.Rand) float64 {
	switch r.Intn(8) {
	case 0:
		l := edges()
		return l[r.Intn(len(l))]
	case 1:
		return -drawnCost(r)
	case 2:
		return math.Float64frombits(r.Uint64())
	}
	return drawnCost(r)
}

// drawnCost is of any size; of many the last bits are 0 or 1 in a row, so that sums come to be just between two float64.
func drawnCost(r *rand.Rand) float64 {
	return math.Float64frombits(uint64(r.Int63n(0x7ff))<<52 | drawnPart(r))
}

func drawnPart(r *rand.Rand) uint64 {
	part := r.Uint64() & (1<<52 - 1)
	low := uint64(1)<<r.Intn(53) - 1
	switch r.Intn(4) {
	case 0:
		return part &^ low
	case 1:
		return part | low
	case 2:
		return part&^low | (low+1)>>1
	}
	return part
}

// drawnPair is two costs whose sizes are not so far apart that one of them would not count.
func drawnPair(r *rand.Rand) (float64, float64) {
	size := r.Intn(0x7ff)
	other := min(max(size-56+r.Intn(113), 0), 0x7fe)
	return math.Float64frombits(uint64(size)<<52 | drawnPart(r)), math.Float64frombits(uint64(other)<<52 | drawnPart(r))
}

// drawnRow has alike ones at many places.
func drawnRow(r *rand.Rand, length int) []float64 {
	some := append(nans(), 0, minusNought, infinity, minusInf)
	for range 1 + r.Intn(9) {
		some = append(some, drawn(r))
	}
	r.Shuffle(len(some), func(i, j int) { some[i], some[j] = some[j], some[i] })
	some = some[:1+r.Intn(len(some))]
	l := make([]float64, length)
	for i := range l {
		l[i] = some[r.Intn(len(some))]
	}
	return l
}

func same(a, b float64) bool { return math.Float64bits(a) == math.Float64bits(b) }

// checkNumber is to the last bit, so -0 is not 0.
func checkNumber(t *testing.T, what string, got, want float64) {
	t.Helper()
	if !same(got, want) {
		t.Errorf("%s: %v (%016x), not %v (%016x)", what, got, math.Float64bits(got), want, math.Float64bits(want))
	}
}

func TestModelOfNumbers(t *testing.T) { // what the model says of plain numbers, so that it can be trusted
	for x, want := range map[float64]int64{0: 0, tiniest: 1, 1: oneBits, -1: -oneBits, greatest: infinityBits - 1, infinity: infinityBits, minusInf: -infinityBits} {
		if got := modelRank(x); got != want {
			t.Errorf("modelRank(%v): %d", x, got)
		}
	}
	for _, x := range someCosts() {
		checkNumber(t, "nearest", nearest(units(x)), math.Abs(x))
	}
	for _, c := range [][3]float64{{1, 2, 3}, {0.1, 0.2, 0.30000000000000004}, {power(53), 1, power(53)}, {power(53) + 2, 1, power(53) + 4}, {minusNought, minusNought, 0}, {greatest, power(970), infinity}, {greatest, power(969), greatest}} {
		checkNumber(t, "modelAdd", modelAdd(c[0], c[1]), c[2])
	}
}
