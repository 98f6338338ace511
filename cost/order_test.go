package cost

import (
	"math/rand"
	"slices"
	"testing"
)

func checkRight(t *testing.T, x float64, want bool) {
	t.Helper()
	if got := Right(x); got != want {
		t.Errorf("Right(%v): %v", x, got)
	}
}

func checkLess(t *testing.T, a, b float64, want bool) {
	t.Helper()
	if got := Less(a, b); got != want {
		t.Errorf("Less(%v, %v): %v", a, b, got)
	}
}

func checkLeast(t *testing.T, want int, l ...float64) {
	t.Helper()
	if got := Least(l...); got != want {
		t.Errorf("Least(%v): %d, not %d", l, got, want)
	}
}

func checkOrder(t *testing.T, l []float64, want ...int) {
	t.Helper()
	if got := Order(l); !slices.Equal(got, want) {
		t.Errorf("Order(%v): %v, not %v", l, got, want)
	}
}

func TestRight(t *testing.T) { // P15.1
	for _, x := range []float64{0, minusNought, tiniest, power(-1022), 0.5, 1, 1e9, power(53), greatest} {
		checkRight(t, x, true)
	}
	for _, x := range noCosts() {
		checkRight(t, x, false)
	}
	for _, x := range someCosts() {
		checkRight(t, x, true)
	}
}

func TestLess(t *testing.T) { // P15.1: each against each
	rising := [][]float64{{minusInf}, {-greatest}, {-1}, {-power(-1022)}, {-tiniest}, {0, minusNought}, {tiniest}, {power(-1022)}, {1}, {next(1)}, {greatest}, {infinity}, nans()}
	for i, alike := range rising {
		for j, others := range rising {
			for _, a := range alike {
				for _, b := range others {
					checkLess(t, a, b, i < j)
				}
			}
		}
	}
}

func TestRightAndLessAreAsTheWordsSay(t *testing.T) { // P15.1
	for _, a := range edges() {
		checkRight(t, a, modelRight(a))
		for _, b := range edges() {
			checkLess(t, a, b, modelLess(a, b))
		}
	}
	r := rand.New(rand.NewSource(151))
	for range 200000 {
		a, b := drawn(r), drawn(r)
		checkRight(t, a, modelRight(a))
		checkLess(t, a, b, modelLess(a, b))
		checkLess(t, a, next(a), modelLess(a, next(a)))
		checkLess(t, next(a), a, modelLess(next(a), a))
	}
}

func TestLeast(t *testing.T) { // P15.3
	checkLeast(t, -1)
	checkLeast(t, -1, []float64{}...)
	for _, x := range edges() {
		checkLeast(t, 0, x)
		checkLeast(t, 0, x, x, x)
	}
	checkLeast(t, 1, 3, 1, 1)
	checkLeast(t, 2, 3, 2, 1)
	checkLeast(t, 0, 1, 2, 3)
	checkLeast(t, 1, 1, -1, 0)
	checkLeast(t, 3, infinity, greatest, 0, minusInf, -greatest)
	// -0 and 0 are alike.
	checkLeast(t, 0, 0, minusNought)
	checkLeast(t, 0, minusNought, 0)
	checkLeast(t, 1, 1, 0, minusNought)
	checkLeast(t, 1, 1, minusNought, 0)
}

func TestLeastBesideWhatIsNoNumber(t *testing.T) { // P15.3
	for _, a := range nans() {
		for _, b := range nans() {
			checkLeast(t, 0, a, b)
			for _, x := range []float64{minusInf, -1, minusNought, 0, 5, greatest, infinity} {
				checkLeast(t, 2, a, b, x)
				checkLeast(t, 1, a, x, b)
				checkLeast(t, 0, x, a, b)
				checkLeast(t, 1, a, x, b, x)
			}
			checkLeast(t, 3, a, 2, b, 1, a, 1, b)
		}
	}
}

func TestOrder(t *testing.T) { // P15.3
	checkOrder(t, nil)
	checkOrder(t, []float64{})
	for _, x := range edges() {
		checkOrder(t, []float64{x}, 0)
		checkOrder(t, []float64{x, x, x}, 0, 1, 2)
	}
	checkOrder(t, []float64{1, 2, 3}, 0, 1, 2)
	checkOrder(t, []float64{3, 2, 1}, 2, 1, 0)
	checkOrder(t, []float64{3, 1, 2}, 1, 2, 0)
	checkOrder(t, []float64{2, 1, 2, 1, 2, 1}, 1, 3, 5, 0, 2, 4)
	// -0 and 0 are alike.
	checkOrder(t, []float64{0, minusNought, 0, minusNought}, 0, 1, 2, 3)
	checkOrder(t, []float64{minusNought, 0, -1, minusNought, 0}, 2, 0, 1, 3, 4)
	checkOrder(t, []float64{nan, infinity, greatest, tiniest, 0, -tiniest, -greatest, minusInf}, 7, 6, 5, 4, 3, 2, 1, 0)
}

func TestOrderBesideWhatIsNoNumber(t *testing.T) { // P15.3
	for _, a := range nans() {
		for _, b := range nans() {
			checkOrder(t, []float64{a, b}, 0, 1)
			checkOrder(t, []float64{a, 1, b}, 1, 0, 2)
			checkOrder(t, []float64{infinity, a, b, infinity, minusInf}, 4, 0, 3, 1, 2)
			checkOrder(t, []float64{1, a, 0, b, 1, a, 0}, 2, 6, 0, 4, 1, 3, 5)
		}
	}
}

func TestAllShortRows(t *testing.T) { // P15.3: of some kinds of numbers, at all places
	some := []float64{minusInf, minusNought, 0, 1, infinity, nan, -nans()[1]}
	rows := [][]float64{nil}
	for len(rows) > 0 {
		l := rows[0]
		rows = rows[1:]
		for _, x := range some {
			row := append(slices.Clone(l), x)
			checkLeast(t, modelLeast(row...), row...)
			checkOrder(t, row, modelOrder(row)...)
			if len(row) < 5 {
				rows = append(rows, row)
			}
		}
	}
}

func TestLeastAndOrderAreAsTheWordsSay(t *testing.T) { // P15.3
	r := rand.New(rand.NewSource(153))
	for i := range 3000 {
		l := drawnRow(r, i%90)
		checkLeast(t, modelLeast(l...), l...)
		checkOrder(t, l, modelOrder(l)...)
	}
}

// checkSorted is P15.3's second half, of rows that are too long to hold each of it against each.
func checkSorted(t *testing.T, l []float64) {
	t.Helper()
	order := Order(l)
	if len(order) != len(l) {
		t.Fatalf("%d places of %d", len(order), len(l))
	}
	there := make([]bool, len(l))
	for i, place := range order {
		if place < 0 || place >= len(l) || there[place] {
			t.Fatalf("the place %d at %d is none, or is there twice", place, i)
		}
		there[place] = true
		if i > 0 && !modelComesFirst(l, order[i-1], place) {
			t.Fatalf("%v of the place %d is ahead of %v of the place %d", l[order[i-1]], order[i-1], l[place], place)
		}
	}
	if len(l) > 0 {
		checkNumberOf(t, "Least", Least(l...), order[0])
	}
}

func checkNumberOf(t *testing.T, what string, got, want int) {
	t.Helper()
	if got != want {
		t.Errorf("%s: %d, not %d", what, got, want)
	}
}

func TestLongRows(t *testing.T) { // P15.3
	r := rand.New(rand.NewSource(1530))
	const length = 100000
	for range 5 {
		checkSorted(t, drawnRow(r, length))
	}
	mixed, rising := make([]float64, length), make([]float64, length)
	for i := range length {
		mixed[i], rising[i] = drawn(r), float64(i/3)
	}
	checkSorted(t, mixed)
	checkSorted(t, rising)
	slices.Reverse(rising)
	checkSorted(t, rising)
	checkSorted(t, make([]float64, length))
}
