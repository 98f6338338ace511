package cost

import (
	"math"
	"math/rand"
	"testing"
)

// checkOf is P15.4's first half, of three numbers.
func checkOf(t *testing.T, a, b, c float64) {
	t.Helper()
	if Less(a, b) && Less(b, a) || Less(a, a) {
		t.Errorf("%v and %v are ahead of one another, or one of itself", a, b)
	}
	if Less(a, b) && Less(b, c) && !Less(a, c) {
		t.Errorf("%v is ahead of %v, that of %v", a, b, c)
	}
	// Who is alike is ahead of the same ones, and behind the same ones.
	if alike(a, b) && (Less(a, c) != Less(b, c) || Less(c, a) != Less(c, b)) {
		t.Errorf("%v and %v are alike, but not beside %v", a, b, c)
	}
}

func alike(a, b float64) bool { return !Less(a, b) && !Less(b, a) }

// checkOfSums is P15.4's second half, of three numbers.
func checkOfSums(t *testing.T, a, b, c float64) {
	t.Helper()
	sum := Add(a, b)
	if !same(sum, Add(b, a)) {
		t.Errorf("Add(%v, %v): %v, and turned %v", a, b, sum, Add(b, a))
	}
	if !Right(a) || !Right(b) {
		return
	}
	if !Right(sum) && !same(sum, infinity) {
		t.Errorf("Add(%v, %v): %v", a, b, sum)
	}
	if Less(sum, a) || Less(sum, b) {
		t.Errorf("Add(%v, %v): %v, which a part is behind", a, b, sum)
	}
	if Right(c) && Less(b, c) && Less(Add(a, c), sum) {
		t.Errorf("Add(%v, %v): %v, and with %v %v", a, b, sum, c, Add(a, c))
	}
}

func TestOrderOfEachThree(t *testing.T) { // P15.4
	l := append(noCosts(), 0, minusNought, tiniest, power(-1022), 1, next(1), power(53), power(970), greatest)
	for _, a := range l {
		for _, b := range l {
			for _, c := range l {
				checkOf(t, a, b, c)
				checkOfSums(t, a, b, c)
			}
		}
	}
}

func TestWhatFollows(t *testing.T) { // P15.4
	r := rand.New(rand.NewSource(154))
	for range 200000 {
		a, b, c := drawn(r), drawn(r), drawn(r)
		checkOf(t, a, b, c)
		checkOfSums(t, a, b, c)
		a, b = drawnPair(r)
		checkOfSums(t, a, b, next(b))
		checkOfSums(t, b, a, next(a))
		checkOfSums(t, a, b, drawnCost(r))
	}
}

func TestWhatIsAlike(t *testing.T) { // Words: -0 and 0, and all NaN; no others
	for _, a := range edges() {
		for _, b := range edges() {
			want := a == b || math.IsNaN(a) && math.IsNaN(b)
			if alike(a, b) != want {
				t.Errorf("%v and %v are alike: %v", a, b, !want)
			}
		}
	}
}

func TestSumGrows(t *testing.T) { // P15.4: one more cost, or a greater one, does not make a sum less
	r := rand.New(rand.NewSource(1540))
	for range 5000 {
		l := make([]float64, 1+r.Intn(8))
		for i := range l {
			l[i] = drawnCost(r)
		}
		for n := range l {
			if Less(Sum(l[:n+1]...), Sum(l[:n]...)) {
				t.Fatalf("Sum(%v) falls at %d", l, n)
			}
		}
		before := Sum(l...)
		place := r.Intn(len(l))
		l[place] = next(l[place])
		if Less(Sum(l...), before) {
			t.Fatalf("Sum(%v) fell, as the place %d grew", l, place)
		}
	}
}
