package sum

import (
	"math"
	"math/big"
	"strings"
	"testing"
)

// slowSum is P2.1 word by word, in numbers that have no bound.
func slowSum(data string) int {
	if len(data)%2 == 1 {
		data += "\x00"
	}
	var numbers []int
	for i := 0; i < len(data); i += 2 {
		numbers = append(numbers, 256*int(data[i])+int(data[i+1]))
	}
	return 65535 - slowRound(numbers...)
}

func slowRound(numbers ...int) int {
	total, bound := big.NewInt(0), big.NewInt(65536)
	for _, n := range numbers {
		total.Add(total, big.NewInt(int64(n)))
	}
	for total.Cmp(bound) >= 0 {
		quotient, rest := new(big.Int).DivMod(total, bound, new(big.Int))
		total.Add(quotient, rest)
	}
	return int(total.Int64())
}

// slowJoin is P2.2 word by word, of numbers from 0 to 65535.
func slowJoin(a, b int, odd bool) int {
	x, y := 65535-a, 65535-b
	if odd {
		y = y%256*256 + y/256
	}
	return 65535 - slowRound(x, y)
}

// texts are of many lengths, with bytes that make small, great and mixed sums.
func texts() []string {
	var all []string
	for length := range 40 {
		mixed := make([]byte, length)
		for i := range mixed {
			mixed[i] = byte(167*i + 31*length + 90)
		}
		all = append(all, string(mixed), strings.Repeat("\x00", length), strings.Repeat("\xff", length), strings.Repeat("\x80\x01", length), strings.Repeat("\xff\xfe\x7f", length))
	}
	return all
}

func checkSum(t *testing.T, data string, want int) {
	t.Helper()
	if n := Sum(data); n != want {
		t.Errorf("Sum of %d bytes % x: %04x, not %04x", len(data), data[:min(len(data), 32)], n, want)
	}
	if r := Right(data); r != (want == 0) {
		t.Errorf("Right of %d bytes % x: %v", len(data), data[:min(len(data), 32)], r)
	}
}

func TestSumOfTexts(t *testing.T) { // P2.1
	for _, c := range []struct {
		data string
		want int
	}{
		{"", 0xffff},                     // no bytes
		{"\x00", 0xffff},                 // one byte
		{"\x01", 0xfeff},                 // it is the high one of its pair
		{"\xff", 0x00ff},                 //
		{"\x00\x01", 0xfffe},             // the low one
		{"\x12\x34", 0xedcb},             // an even number of bytes
		{"\x12\x34\x56", 0x97cb},         // an odd one
		{"\xff\xff", 0},                  // the sum comes to 65535, which goes round no more
		{"\xff\xfe\x00\x01", 0},          // the same of two pairs
		{"\xff\x00\x00\xff", 0},          //
		{"\xff\xff\x00\x01", 0xfffe},     // 65536 goes round to 1
		{"\xff\xff\xff\xff", 0},          // 131070 goes round to 65535
		{"\x80\x00\x80\x00", 0xfffe},     //
		{"\x80\x00\x7f\xff", 0},          //
		{"\xe9\x80\x00\xc3\x28", 0xedbb}, // bytes that are no UTF-8
		{"\x00\x01\xf2\x03\xf4\xf5\xf6\xf7", 0x220d},
		{"\x45\x00\x00\x73\x00\x00\x40\x00\x40\x11\x00\x00\xc0\xa8\x00\x01\xc0\xa8\x00\xc7", 0xb861},
		{"\x45\x00\x00\x73\x00\x00\x40\x00\x40\x11\xb8\x61\xc0\xa8\x00\x01\xc0\xa8\x00\xc7", 0},
	} {
		checkSum(t, c.data, c.want)
	}
}

func TestSumGoesRoundMoreThanOnce(t *testing.T) { // P2.1
	many := strings.Repeat("\xff\xff", 65536)
	checkSum(t, many, 0)                             // FFFF0000, then FFFF
	checkSum(t, many+"\x00\x01", 0xfffe)             // FFFF0001, then 10000, then 1
	checkSum(t, many+"\x00\x02", 0xfffd)             // FFFF0002, then 10001, then 2
	checkSum(t, many+"\xff\xff\x00\x01", 0xfffe)     // 100000000, then 10000, then 1
	checkSum(t, many+"\xff\xff\xff\xff\xff", 0x00ff) // an odd number of bytes
}

func TestSumOfAllShortTexts(t *testing.T) { // P2.1, R3
	for high := range 256 {
		one := string([]byte{byte(high)})
		checkSum(t, one, slowSum(one))
		for low := range 256 {
			two := string([]byte{byte(high), byte(low)})
			checkSum(t, two, 65535-256*high-low)
			for _, third := range []string{"\x00", "\x01", "\xff", "\x00\x01", "\xff\xff", "\xff\x01\x80"} {
				checkSum(t, two+third, slowSum(two+third))
			}
		}
	}
}

func TestSumIsAsTheWordsSay(t *testing.T) { // P2.1
	for _, data := range texts() {
		checkSum(t, data, slowSum(data))
	}
}

func checkJoin(t *testing.T, a, b int, odd bool, want int) {
	t.Helper()
	if n := Join(a, b, odd); n != want {
		t.Errorf("Join(%#x, %#x, %v): %04x, not %04x", a, b, odd, n, want)
	}
}

func TestJoin(t *testing.T) { // P2.2
	for _, c := range []struct{ a, b, even, odd int }{
		{0xffff, 0xffff, 0xffff, 0xffff}, // of nothing and nothing
		{0xffff, 0x1234, 0x1234, 0x3412}, // b's two bytes are exchanged
		{0x1234, 0xffff, 0x1234, 0x1234}, // a's are not
		{0x0000, 0x0000, 0x0000, 0x0000}, // 131070 goes round to 65535
		{0x0000, 0xffff, 0x0000, 0x0000},
		{0xffff, 0x0000, 0x0000, 0x0000},
		{0xfffe, 0xfffe, 0xfffd, 0xfefe},
		{0x0000, 0xfffe, 0xfffe, 0xfeff}, // 65536 goes round to 1
		{0xfffe, 0x0000, 0xfffe, 0xfffe},
		{0x8000, 0x7fff, 0x0000, 0x7f80}, // 65535 goes round no more
		{0x7fff, 0x7fff, 0xfffe, 0x7f7f},
		{0xff00, 0x00ff, 0x0000, 0xfe01},
		{0x1234, 0x5678, 0x68ac, 0x8a8a},
		{0xabcd, 0x0102, 0xaccf, 0xadce},
	} {
		checkJoin(t, c.a, c.b, false, c.even)
		checkJoin(t, c.a, c.b, true, c.odd)
	}
}

func TestJoinTakesTheLowestBits(t *testing.T) { // P2.2, R1
	for _, n := range []int{0, 1, 2, 0xff, 0x100, 0x1234, 0x7fff, 0x8000, 0xff00, 0xfffe, 0xffff} {
		for _, far := range []int{1 << 16, -1 << 16, 5 << 16, -5 << 16, 1 << 31, -1 << 31, 1 << 40, -1 << 40, math.MinInt, math.MaxInt - 0xffff} {
			for _, other := range []int{0, 1, 0xff01, 0xffff} {
				checkJoin(t, n+far, other, false, slowJoin(n, other, false))
				checkJoin(t, n+far, other, true, slowJoin(n, other, true))
				checkJoin(t, other, n+far, false, slowJoin(other, n, false))
				checkJoin(t, other, n+far, true, slowJoin(other, n, true))
				checkJoin(t, n+far, other-far, true, slowJoin(n, other, true))
			}
		}
	}
	checkJoin(t, -1, -2, false, Join(0xffff, 0xfffe, false))
	checkJoin(t, -1, -2, true, Join(0xffff, 0xfffe, true))
	checkJoin(t, 0x10000+0xfffe, -2, false, 0xfffd)
	checkJoin(t, math.MaxInt, math.MinInt, false, 0)
	checkJoin(t, math.MinInt, math.MaxInt, true, 0)
}

func TestJoinIsAsTheWordsSay(t *testing.T) { // P2.2, R3
	edges := []int{0, 1, 0x7f, 0x80, 0xff, 0x100, 0x1ff, 0x7fff, 0x8000, 0x80ff, 0xff00, 0xff7f, 0xfffe, 0xffff}
	for n := range 65536 {
		for _, edge := range edges {
			for _, odd := range []bool{false, true} {
				checkJoin(t, n, edge, odd, slowJoin(n, edge, odd))
				checkJoin(t, edge, n, odd, slowJoin(edge, n, odd))
			}
		}
	}
}

func TestJoinOfSumsIsTheSumOfBoth(t *testing.T) { // P2.3
	all := texts()
	for _, first := range all {
		a := Sum(first)
		for _, second := range all {
			checkJoin(t, a, Sum(second), len(first)%2 == 1, slowSum(first+second))
		}
	}
}

func TestTextWithItsSumIsRight(t *testing.T) { // P2.3
	for _, data := range texts() {
		if len(data)%2 == 1 {
			continue
		}
		n := Sum(data)
		whole := data + string([]byte{byte(n >> 8), byte(n)})
		if !Right(whole) {
			t.Errorf("% x is not right", whole)
		}
		checkChangesAreSeen(t, whole)
	}
}

// checkChangesAreSeen turns each bit: the sum can't stay, as it moves by a power of two.
func checkChangesAreSeen(t *testing.T, whole string) {
	t.Helper()
	for bit := range 8 * len(whole) {
		changed := []byte(whole)
		changed[bit/8] ^= 1 << (bit % 8)
		if Right(string(changed)) {
			t.Errorf("% x is right", changed)
		}
	}
}

func FuzzJoinOfSumsIsTheSumOfBoth(f *testing.F) { // P2.1, P2.3
	f.Add("", "")
	f.Add("a", "bc")
	f.Add("\xff\xff", "\x00\x01\x02")
	f.Fuzz(func(t *testing.T, first, second string) {
		checkSum(t, first, slowSum(first))
		checkJoin(t, Sum(first), Sum(second), len(first)%2 == 1, slowSum(first+second))
	})
}

func TestManyBytes(t *testing.T) { // P2.1, Limits: the plain sum is far above 32 bits
	const size = 1 << 26
	checkSum(t, strings.Repeat("\xff", size), 0)
	checkSum(t, strings.Repeat("\xff", size+1), 0x00ff)
	checkSum(t, strings.Repeat("\x00\x01", size/2), 65535-size/2/65536)
	checkSum(t, strings.Repeat("\x00", size), 0xffff)
}
