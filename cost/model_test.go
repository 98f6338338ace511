package cost

import (
	"math"
	"math/big"
)

// The model is chapter 15 word by word, in whole numbers alone: a float64 is taken by its bits.
const (
	signBit      = 1 << 63
	infinityBits = 0x7ff << 52
	oneBits      = 0x3ff << 52
)

// modelRank rises by the order, and is the same of alike ones.
func modelRank(x float64) int64 {
	bits := math.Float64bits(x)
	size := int64(bits &^ signBit)
	switch {
	case size > infinityBits:
		return math.MaxInt64
	case bits&signBit != 0:
		return -size
	}
	return size
}

func modelRight(x float64) bool {
	rank := modelRank(x)
	return rank >= 0 && rank < infinityBits
}

func modelLess(a, b float64) bool { return modelRank(a) < modelRank(b) }

// units is a cost as so many times the least float64 above 0, 2^-1074, which all costs are made of.
func units(x float64) *big.Int {
	bits := math.Float64bits(x) &^ signBit
	n := new(big.Int).SetUint64(bits & (1<<52 - 1))
	power := uint(bits >> 52)
	if power == 0 {
		return n
	}
	n.SetBit(n, 52, 1)
	return n.Lsh(n, power-1)
}

// firstAbove is 2^1024 less 2^970 in those units.
func firstAbove() *big.Int {
	n := new(big.Int).Lsh(big.NewInt(1), 1024+1074)
	return n.Sub(n, new(big.Int).Lsh(big.NewInt(1), 970+1074))
}

// nearest is the float64 of so many units. Its bits are those of a number that counts all float64 from 0 on, so to go up to the next one is to add 1.
func nearest(n *big.Int) float64 {
	if n.Cmp(firstAbove()) >= 0 {
		return math.Inf(1)
	}
	cut := uint(max(n.BitLen()-53, 0))
	kept := new(big.Int).Rsh(n, cut)
	rest := new(big.Int).Sub(n, new(big.Int).Lsh(kept, cut))
	bits := uint64(cut)<<52 + kept.Uint64()
	half := rest.Lsh(rest, 1).Cmp(new(big.Int).Lsh(big.NewInt(1), cut))
	if half > 0 || half == 0 && kept.Bit(0) == 1 {
		bits++
	}
	return math.Float64frombits(bits)
}

func modelAdd(a, b float64) float64 {
	if !modelRight(a) || !modelRight(b) {
		return math.Inf(1)
	}
	return nearest(new(big.Int).Add(units(a), units(b)))
}

func modelSum(l ...float64) float64 {
	if len(l) == 0 {
		return 0
	}
	return modelAdd(modelSum(l[:len(l)-1]...), l[len(l)-1])
}

func modelLeast(l ...float64) int {
	for i := range l {
		if modelPlace(i, l, modelIsAhead) == 0 {
			return i
		}
	}
	return -1
}

func modelOrder(l []float64) []int {
	order := make([]int, len(l))
	for i := range l {
		order[modelPlace(i, l, modelComesFirst)] = i
	}
	return order
}

// modelPlace is how many of a row are ahead of the one at i, by what says so of two places.
func modelPlace(i int, l []float64, ahead func(l []float64, i, j int) bool) int {
	n := 0
	for j := range l {
		if ahead(l, j, i) {
			n++
		}
	}
	return n
}

func modelIsAhead(l []float64, i, j int) bool { return modelLess(l[i], l[j]) }

func modelComesFirst(l []float64, i, j int) bool {
	return modelLess(l[i], l[j]) || modelRank(l[i]) == modelRank(l[j]) && i < j
}
