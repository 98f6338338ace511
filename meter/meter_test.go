package meter

import (
	"math"
	"math/big"
	"math/rand"
	"testing"

	"drover/api"
)

const greatest = 4294967295

var (
	right    = []int{0, 1, 2, 3, 1000, math.MaxInt32, math.MaxInt32 + 1, greatest - 1, greatest}
	wrong    = []int{math.MinInt, math.MinInt32, -greatest, -2, -1, greatest + 1, greatest + 2, 1 << 33, 1 << 62, math.MaxInt}
	negative = []int{-1, -2, -5, math.MinInt32, -greatest - 1, math.MinInt + 1, math.MinInt}
)

func bucket(t *testing.T, rate, burst int) *Bucket {
	t.Helper()
	b, e := New(rate, burst)
	if b == nil || e != api.OK {
		t.Fatalf("New(%d, %d): %v %v", rate, burst, b, e)
	}
	return b
}

// call is a Tick, if it is one, or else a Take.
type call struct {
	ticks bool
	n     int
}

func tick(n int) call { return call{true, n} }

func take(n int) call { return call{false, n} }

func (c call) of(b *Bucket) (bool, api.Errno) {
	if c.ticks {
		return false, b.Tick(c.n)
	}
	return b.Take(c.n)
}

func (c call) ofModel(m *model) (bool, api.Errno) {
	if c.ticks {
		return false, m.tick(c.n)
	}
	return m.take(c.n)
}

func checkLeft(t *testing.T, b *Bucket, want int) {
	t.Helper()
	// To ask is to take nothing.
	for range 2 {
		if n := b.Left(); n != want {
			t.Errorf("%d left, not %d", n, want)
		}
	}
}

func checkCall(t *testing.T, b *Bucket, c call, is bool, left int) {
	t.Helper()
	if got, e := c.of(b); got != is || e != api.OK {
		t.Errorf("%v: %v %v", c, got, e)
	}
	checkLeft(t, b, left)
}

// checkRefused is about calls that change nothing.
func checkRefused(t *testing.T, b *Bucket, c call, want api.Errno) {
	t.Helper()
	left := b.Left()
	if is, e := c.of(b); is || e != want {
		t.Errorf("%v: %v %v", c, is, e)
	}
	checkLeft(t, b, left)
}

func checkModel(t *testing.T, b *Bucket, m *model, c call) {
	t.Helper()
	is, e := c.of(b)
	wantIs, wantE := c.ofModel(m)
	if is != wantIs || e != wantE || number(b.Left()).Cmp(m.left) != 0 {
		t.Fatalf("rate %v, burst %v: %v: %v %v, %d left; not %v %v, %v left", m.rate, m.burst, c, is, e, b.Left(), wantIs, wantE, m.left)
	}
}

func TestNewIsFull(t *testing.T) { // P9.1
	for _, rate := range right {
		for _, burst := range right {
			checkLeft(t, bucket(t, rate, burst), burst)
		}
	}
}

func TestNewKnowsTheRateFromTheBurst(t *testing.T) { // P9.1
	b := bucket(t, 1, 7)
	checkCall(t, b, take(7), true, 0)
	checkCall(t, b, tick(1), false, 1)
	b = bucket(t, 7, 1)
	checkCall(t, b, take(1), true, 0)
	checkCall(t, b, tick(1), false, 1)
}

func TestNewRefuses(t *testing.T) { // P9.1, R1
	check := func(rate, burst int) {
		t.Helper()
		if b, e := New(rate, burst); b != nil || e != api.ErrArg {
			t.Errorf("New(%d, %d): %v %v", rate, burst, b, e)
		}
	}
	for _, n := range wrong {
		for _, m := range right {
			check(n, m)
			check(m, n)
		}
		for _, m := range wrong {
			check(n, m)
		}
	}
}

func TestExamples(t *testing.T) { // chapter 9, Examples
	b := bucket(t, 2, 5)
	checkCall(t, b, take(4), true, 1)
	checkCall(t, b, take(2), false, 1)
	checkCall(t, b, tick(1), false, 3)
	checkCall(t, b, tick(9), false, 5)
}

func TestTick(t *testing.T) { // P9.1
	for _, c := range []struct{ rate, burst, taken, ticks, left int }{
		{3, 10, 10, 0, 0}, // no tick
		{3, 10, 10, 1, 3}, // one
		{3, 10, 10, 2, 6},
		{3, 10, 10, 3, 9},
		{3, 10, 10, 4, 10}, // 12 are more than there is room for
		{3, 10, 10, 5, 10},
		{3, 10, 9, 3, 10},  // 9 are just as many
		{3, 10, 8, 3, 10},  // one too many
		{3, 10, 0, 0, 10},  // it is full, and stays so
		{3, 10, 0, 1, 10},  //
		{3, 10, 1, 0, 9},   //
		{20, 10, 1, 1, 10}, // the rate is more than the burst
		{20, 10, 10, 1, 10},
		{20, 10, 10, 0, 0},
		{0, 10, 4, 1, 6}, // nothing comes
		{0, 10, 4, math.MaxInt, 6},
		{5, 0, 0, 1, 0}, // there is no room
		{5, 0, 0, math.MaxInt, 0},
		{0, 0, 0, math.MaxInt, 0},
		{1, greatest, greatest, greatest - 1, greatest - 1},
		{1, greatest, greatest, greatest, greatest},
		{1, greatest, greatest, greatest + 1, greatest},
		{greatest, greatest, greatest, 1, greatest},
		{greatest - 1, greatest, greatest, 1, greatest - 1},
		{65535, greatest, greatest, 65537, greatest}, // 65535 times 65537 is 4294967295
		{65535, greatest, greatest, 65536, greatest - 65535},
		{65535, greatest, greatest - 1, 65537, greatest},
	} {
		b := bucket(t, c.rate, c.burst)
		checkCall(t, b, take(c.taken), true, c.burst-c.taken)
		checkCall(t, b, tick(c.ticks), false, c.left)
	}
}

// TestTickBeyondAnInt is about rates times ticks which, as far as an int holds them, would be small, or below 0.
func TestTickBeyondAnInt(t *testing.T) { // P9.1, R1
	for _, c := range []struct{ rate, ticks int }{
		{3, 6148914691236517206},  // 2^64 and 2
		{3, 3074457345618258603},  // 2^63 and 1
		{1, math.MaxInt},          // just as much as an int holds
		{2, math.MaxInt},          // 2^64 less 2
		{2, 1 << 62},              // 2^63
		{4, 1 << 62},              // 2^64
		{1 << 31, 1 << 33},        // 2^64
		{1 << 31, 1<<33 + 1},      // 2^64 and 2^31
		{1 << 31, 1 << 32},        // 2^63
		{greatest, greatest + 2},  // 2^64 less 1
		{greatest, 1 << 32},       // 2^64 less 2^32
		{greatest, math.MaxInt32}, // below 2^63
		{greatest, math.MaxInt32 + 2},
		{greatest, math.MaxInt - 1},
		{greatest, math.MaxInt},
	} {
		for _, burst := range right {
			for _, taken := range []int{0, 1, burst / 2, burst - 1, burst} {
				if taken < 0 || taken > burst {
					continue
				}
				b := bucket(t, c.rate, burst)
				checkCall(t, b, take(taken), true, burst-taken)
				checkCall(t, b, tick(c.ticks), false, burst)
				checkCall(t, b, tick(c.ticks), false, burst)
			}
		}
	}
}

func TestTake(t *testing.T) { // P9.1
	for _, burst := range right {
		b := bucket(t, 0, burst)
		checkCall(t, b, take(0), true, burst)
		checkCall(t, b, take(burst+1), false, burst) // one more than there are
		checkCall(t, b, take(math.MaxInt), false, burst)
		if burst > 0 {
			checkCall(t, b, take(burst-1), true, 1) // one fewer
			checkCall(t, b, take(2), false, 1)
			checkCall(t, b, take(1), true, 0) // just as many
		}
		checkCall(t, b, take(0), true, 0)
		checkCall(t, b, take(1), false, 0)
		checkCall(t, b, take(math.MaxInt), false, 0)
	}
	b := bucket(t, 0, greatest)
	checkCall(t, b, take(greatest), true, 0)
}

func TestTakeThatAnswersFalseTakesNothing(t *testing.T) { // P9.1
	b := bucket(t, 1, 10)
	for _, n := range []int{11, 12, greatest, math.MaxInt - 1, math.MaxInt} {
		for range 3 {
			checkCall(t, b, take(n), false, 10)
		}
	}
	checkCall(t, b, take(6), true, 4)
	checkCall(t, b, take(5), false, 4)
	checkCall(t, b, take(4), true, 0) // what was asked for in vain is not owed
	checkCall(t, b, take(1), false, 0)
	checkCall(t, b, tick(1), false, 1)
	checkCall(t, b, take(1), true, 0)
}

func TestNumbersBelowZeroAreRefused(t *testing.T) { // P9.1, R1
	for _, rate := range right {
		for _, burst := range right {
			b := bucket(t, rate, burst)
			for _, n := range negative {
				checkRefused(t, b, tick(n), api.ErrArg)
				checkRefused(t, b, take(n), api.ErrArg)
			}
			checkCall(t, b, take(burst), true, 0)
			for _, n := range negative {
				checkRefused(t, b, tick(n), api.ErrArg)
				checkRefused(t, b, take(n), api.ErrArg)
			}
			checkCall(t, b, tick(1), false, min(rate, burst))
		}
	}
}

func TestNilBucket(t *testing.T) { // P9.1, R1: ErrNil is named ahead of ErrArg
	var b *Bucket
	for _, n := range append([]int{0, 1, 5, greatest, math.MaxInt}, negative...) {
		checkRefused(t, b, tick(n), api.ErrNil)
		checkRefused(t, b, take(n), api.ErrNil)
	}
	checkLeft(t, b, 0)
}

func TestBucketThatNobodyMade(t *testing.T) { // R1: it has no room
	var b Bucket
	checkCall(t, &b, tick(math.MaxInt), false, 0)
	checkCall(t, &b, take(0), true, 0)
	checkCall(t, &b, take(1), false, 0)
	checkRefused(t, &b, tick(-1), api.ErrArg)
	checkRefused(t, &b, take(-1), api.ErrArg)
}

func TestAllShortRuns(t *testing.T) { // P9.1: each row of five calls, of small buckets
	calls := []call{tick(-1), tick(0), tick(1), tick(2), take(-1), take(0), take(1), take(2), take(3), take(4)}
	rows := len(calls) * len(calls) * len(calls) * len(calls) * len(calls)
	for _, size := range [][2]int{{0, 0}, {0, 3}, {1, 3}, {2, 3}, {4, 3}, {1, 0}} {
		for row := range rows {
			b, m := bucket(t, size[0], size[1]), newModel(size[0], size[1])
			rest := row
			for range 5 {
				checkModel(t, b, m, calls[rest%len(calls)])
				rest /= len(calls)
			}
		}
	}
}

// anyNumber is often small, often near what is there, and at times as great as can be, or below 0.
func anyNumber(r *rand.Rand, near int) int {
	switch r.Intn(8) {
	case 0:
		return r.Intn(3)
	case 1, 2:
		return r.Intn(20)
	case 3, 4:
		return near + r.Intn(3) - 1
	case 5:
		return r.Intn(near + 1)
	case 6:
		return r.Int() >> r.Intn(63)
	}
	return -r.Intn(5)
}

func anyCall(r *rand.Rand, b *Bucket) call {
	if r.Intn(2) == 0 {
		return take(anyNumber(r, b.Left()))
	}
	// So many ticks just fill it, or nearly so.
	near := 1
	if b.rate > 0 {
		near = (b.burst - b.left) / b.rate
	}
	return tick(anyNumber(r, near))
}

func anySize(r *rand.Rand) int {
	if r.Intn(4) == 0 {
		return right[r.Intn(len(right))]
	}
	return r.Intn(greatest+1) >> r.Intn(33)
}

func TestLongRunsAreAsTheWordsSay(t *testing.T) { // P9.1
	r := rand.New(rand.NewSource(9))
	for range 400 {
		rate, burst := anySize(r), anySize(r)
		b, m := bucket(t, rate, burst), newModel(rate, burst)
		for range 500 {
			checkModel(t, b, m, anyCall(r, b))
		}
	}
}

func TestNoMoreIsTakenThanCame(t *testing.T) { // P9.2: over any calls, from the first one or from a later one on
	r := rand.New(rand.NewSource(92))
	for range 120 {
		rate, burst := anySize(r), anySize(r)
		b, runs := bucket(t, rate, burst), newBounds(rate, burst)
		for range 300 {
			c := anyCall(r, b)
			is, e := c.of(b)
			switch {
			case c.ticks && e == api.OK:
				runs.tick(c.n)
			case is:
				runs.take(c.n)
			}
			if runs.least().Sign() < 0 {
				t.Fatalf("rate %d, burst %d: %v: too much is taken", rate, burst, c)
			}
		}
	}
}

// anyPart is 0, all of it, or something between.
func anyPart(r *rand.Rand, all *big.Int) int {
	n := int(all.Int64())
	switch r.Intn(4) {
	case 0:
		return n
	case 1:
		return min(n, r.Intn(3))
	}
	return r.Intn(n + 1)
}

func TestAllIsTakenThatKeepsWithin(t *testing.T) { // P9.2
	r := rand.New(rand.NewSource(29))
	for range 120 {
		rate, burst := anySize(r), anySize(r)
		b, runs := bucket(t, rate, burst), newBounds(rate, burst)
		for range 300 {
			if r.Intn(2) == 0 {
				c := anyCall(r, b)
				if !c.ticks || c.n < 0 {
					c = tick(r.Intn(3))
				}
				c.of(b)
				runs.tick(c.n)
				continue
			}
			n := anyPart(r, runs.least())
			runs.take(n)
			if is, e := b.Take(n); !is || e != api.OK {
				t.Fatalf("rate %d, burst %d: Take(%d): %v %v", rate, burst, n, is, e)
			}
			if number(b.Left()).Cmp(runs.least()) != 0 {
				t.Fatalf("rate %d, burst %d: %d left, not %v", rate, burst, b.Left(), runs.least())
			}
		}
	}
}

func TestSteadyAsking(t *testing.T) { // P9.2: as much as comes, over a long time, beside the burst
	b := bucket(t, 1500, 9000)
	taken := 0
	ask := func(n int, want bool) {
		t.Helper()
		is, e := b.Take(n)
		if is != want || e != api.OK {
			t.Fatalf("Take(%d): %v %v", n, is, e)
		}
		if is {
			taken += n
		}
	}
	ask(9000, true)
	for range 100000 {
		ask(1, false)
		b.Tick(1)
		ask(1000, true)
		ask(501, false)
		ask(500, true)
	}
	if taken != 9000+1500*100000 {
		t.Error(taken)
	}
}

func TestTicksMayComeInParts(t *testing.T) { // P9.1: many ticks are as one by one, if nothing is taken between them
	for _, size := range [][2]int{{0, 9}, {1, 9}, {2, 9}, {3, 9}, {10, 9}, {7, 1000}} {
		one, many := bucket(t, size[0], size[1]), bucket(t, size[0], size[1])
		for ticks := range 40 {
			for _, b := range []*Bucket{one, many} {
				checkCall(t, b, take(b.Left()), true, 0)
			}
			for range ticks {
				one.Tick(1)
			}
			checkCall(t, many, tick(ticks), false, one.Left())
		}
	}
}

func TestBucketsKnowNothingOfEachOther(t *testing.T) { // R3
	a, b := bucket(t, 2, 5), bucket(t, 2, 5)
	checkCall(t, a, take(5), true, 0)
	checkLeft(t, b, 5)
	checkCall(t, a, tick(1), false, 2)
	checkCall(t, b, take(4), true, 1)
	checkLeft(t, a, 2)
	checkCall(t, b, tick(1), false, 3)
	checkLeft(t, a, 2)
	New(1, 1)
	checkLeft(t, a, 2)
	checkLeft(t, b, 3)

	r := rand.New(rand.NewSource(3))
	var all []*Bucket
	var models []*model
	for range 20 {
		rate, burst := anySize(r), anySize(r)
		all, models = append(all, bucket(t, rate, burst)), append(models, newModel(rate, burst))
	}
	for range 20000 {
		i := r.Intn(len(all))
		checkModel(t, all[i], models[i], anyCall(r, all[i]))
	}
	for i, b := range all {
		if number(b.Left()).Cmp(models[i].left) != 0 {
			t.Errorf("%d: %d left, not %v", i, b.Left(), models[i].left)
		}
	}
}

func TestSameCallsSameAnswers(t *testing.T) { // R3
	r := rand.New(rand.NewSource(33))
	a, b := bucket(t, 1000, 5000), bucket(t, 1000, 5000)
	for range 5000 {
		c := anyCall(r, a)
		isA, eA := c.of(a)
		isB, eB := c.of(b)
		if isA != isB || eA != eB || a.Left() != b.Left() {
			t.Fatalf("%v: %v %v, and %v %v", c, isA, eA, isB, eB)
		}
	}
}
