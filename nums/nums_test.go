package nums

import (
	"math"
	"strings"
	"testing"

	"drover/api"
)

func TestPutWritesTheHighestByteFirst(t *testing.T) { // P1.1
	for _, c := range []struct {
		n    uint64
		size int
		want string
	}{
		{0, 1, "\x00"},
		{1, 1, "\x01"},
		{128, 1, "\x80"},
		{0, 8, "\x00\x00\x00\x00\x00\x00\x00\x00"},
		{258, 2, "\x01\x02"},
		{258, 3, "\x00\x01\x02"},
		{0x8100, 2, "\x81\x00"},
		{0x010203040506, 6, "\x01\x02\x03\x04\x05\x06"},
		{0x0102030405060708, 8, "\x01\x02\x03\x04\x05\x06\x07\x08"},
		{math.MaxUint64, 8, "\xff\xff\xff\xff\xff\xff\xff\xff"},
	} {
		if s, e := Put(c.n, c.size); s != c.want || e != api.OK {
			t.Errorf("Put(%d, %d): %q %v", c.n, c.size, s, e)
		}
	}
}

func TestPutRefusesSizes(t *testing.T) { // P1.1, R1
	for _, size := range []int{math.MinInt, math.MinInt32, -8, -1, 0, 9, 16, 256 + 4, math.MaxInt32, math.MaxInt} {
		for _, n := range []uint64{0, 1, math.MaxUint64} {
			if s, e := Put(n, size); s != "" || e != api.ErrArg {
				t.Errorf("Put(%d, %d): %q %v", n, size, s, e)
			}
		}
	}
}

func TestPutTakesWhatJustFits(t *testing.T) { // P1.1
	for size := 1; size <= 7; size++ {
		bound := uint64(1) << (8 * size)
		if s, e := Put(bound-1, size); s != strings.Repeat("\xff", size) || e != api.OK {
			t.Errorf("Put(%d, %d): %q %v", bound-1, size, s, e)
		}
		for _, n := range []uint64{bound, bound + 1, bound << 1, math.MaxUint64} {
			if s, e := Put(n, size); s != "" || e != api.ErrArg {
				t.Errorf("Put(%d, %d): %q %v", n, size, s, e)
			}
		}
	}
}

func TestReadHasAllLeft(t *testing.T) { // P1.2
	for _, data := range []string{"a", "abc", "\x00\x00", "\xff\xfe", "\u00e9\u4e16"} {
		r := Read(data)
		if r.Left() != len(data) || r.End() != api.ErrMore {
			t.Errorf("%q: %d %v", data, r.Left(), r.End())
		}
	}
	if r := Read(""); r == nil || r.Left() != 0 || r.End() != api.OK {
		t.Errorf("nothing: %d %v", r.Left(), r.End())
	}
}

func TestNumOfEachSize(t *testing.T) { // P1.2
	data := "\x81\x02\x83\x04\x85\x06\x87\x08"
	want := []uint64{0, 0x81, 0x8102, 0x810283, 0x81028304, 0x8102830485, 0x810283048506, 0x81028304850687, 0x8102830485068708}
	for size := 1; size <= 8; size++ {
		r := Read(data)
		if n := r.Num(size); n != want[size] || r.Left() != 8-size {
			t.Errorf("Num(%d): %x, %d left", size, n, r.Left())
		}
		end := api.ErrMore
		if size == 8 {
			end = api.OK
		}
		if e := r.End(); e != end {
			t.Errorf("Num(%d): %v", size, e)
		}
	}
}

func TestBytesOfEachCount(t *testing.T) { // P1.2
	data := "a\x00\xffd"
	for n := 0; n <= len(data); n++ {
		r := Read(data)
		if s := r.Bytes(n); s != data[:n] || r.Left() != len(data)-n {
			t.Errorf("Bytes(%d): %q, %d left", n, s, r.Left())
		}
		if s := r.Bytes(r.Left()); s != data[n:] || r.End() != api.OK {
			t.Errorf("behind Bytes(%d): %q %v", n, s, r.End())
		}
	}
}

func TestReadInTurn(t *testing.T) { // P1.2: what was read is left no more, and End ends nothing
	r := Read("\x01\x02\x03ab\x04")
	if n := r.Num(1); n != 1 || r.End() != api.ErrMore {
		t.Error(n)
	}
	if n := r.Num(2); n != 0x0203 || r.Left() != 3 || r.End() != api.ErrMore {
		t.Error(n)
	}
	if s := r.Bytes(2); s != "ab" || r.Left() != 1 || r.End() != api.ErrMore {
		t.Error(s)
	}
	if n := r.Num(1); n != 4 || r.Left() != 0 || r.End() != api.OK {
		t.Error(n)
	}
	if s := r.Bytes(0); s != "" || r.End() != api.OK {
		t.Error("no bytes of an empty reader are wrong to it")
	}
	if n := r.Num(1); n != 0 || r.End() != api.ErrEnd {
		t.Error("one byte of an empty reader is right to it")
	}
}

func TestWhatGoesWrong(t *testing.T) { // P1.2, R1
	num := func(n int) func(*Reader) bool {
		return func(r *Reader) bool { return r.Num(n) == 0 }
	}
	bytes := func(n int) func(*Reader) bool {
		return func(r *Reader) bool { return r.Bytes(n) == "" }
	}
	for i, c := range []struct {
		data string
		call func(*Reader) bool
		want api.Errno
	}{
		{"abcdefghij", num(0), api.ErrArg},
		{"abcdefghij", num(-1), api.ErrArg},
		{"abcdefghij", num(9), api.ErrArg},
		{"abcdefghij", num(math.MinInt), api.ErrArg},
		{"abcdefghij", num(math.MaxInt), api.ErrArg},
		{"", num(0), api.ErrArg},
		{"", num(9), api.ErrArg}, // ErrArg is named ahead of ErrEnd
		{"", num(1), api.ErrEnd},
		{"", num(8), api.ErrEnd},
		{"a", num(2), api.ErrEnd},
		{"abcdefg", num(8), api.ErrEnd},
		{"abc", bytes(-1), api.ErrArg},
		{"abc", bytes(math.MinInt), api.ErrArg},
		{"", bytes(-1), api.ErrArg},
		{"", bytes(1), api.ErrEnd},
		{"abc", bytes(4), api.ErrEnd},
		{"abc", bytes(math.MaxInt), api.ErrEnd},
	} {
		r := Read(c.data)
		if !c.call(r) || r.Left() != 0 || r.End() != c.want {
			t.Errorf("%d: %d %v", i, r.Left(), r.End())
		}
		checkStaysWrong(t, r, c.want)
	}
}

// checkStaysWrong asks for what would be right and for what would be wrong in another way.
func checkStaysWrong(t *testing.T, r *Reader, want api.Errno) {
	t.Helper()
	for _, n := range []int{1, 0, -1, 8, 9, math.MaxInt} {
		if x := r.Num(n); x != 0 || r.End() != want {
			t.Errorf("Num(%d) of a wrong reader: %d %v", n, x, r.End())
		}
		if s := r.Bytes(n); s != "" || r.End() != want {
			t.Errorf("Bytes(%d) of a wrong reader: %q %v", n, s, r.End())
		}
		if r.Left() != 0 {
			t.Errorf("%d bytes of a wrong reader are left", r.Left())
		}
	}
}

func TestNilReader(t *testing.T) { // P1.2, R2
	var r *Reader
	checkStaysWrong(t, r, api.ErrNil)
}

func TestPutIsReadAgain(t *testing.T) { // P1.3
	for size := 1; size <= 8; size++ {
		for bit := range 8 * size {
			for _, n := range []uint64{1 << bit, 1<<bit - 1, ^uint64(0) >> (63 - bit), 0xa5c3960f1e2d4b78 & (1<<bit - 1)} {
				for _, behind := range []string{"", "\x00", "\xff", "xyz\x80\x00\xff\x01\x02\x03"} {
					checkReadAgain(t, n, size, behind)
				}
			}
		}
	}
}

func checkReadAgain(t *testing.T, n uint64, size int, behind string) {
	t.Helper()
	s, e := Put(n, size)
	if e != api.OK || len(s) != size {
		t.Fatalf("Put(%d, %d): %q %v", n, size, s, e)
	}
	r := Read(s + behind)
	if got := r.Num(size); got != n {
		t.Errorf("%d in %d bytes is read as %d", n, size, got)
	}
	if got := r.Bytes(r.Left()); got != behind || r.End() != api.OK {
		t.Errorf("behind %d in %d bytes: %q %v", n, size, got, r.End())
	}
}

func FuzzPutIsReadAgain(f *testing.F) { // P1.1, P1.3
	f.Add(uint64(258), 3, "abc")
	f.Add(uint64(256), 1, "")
	f.Add(uint64(math.MaxUint64), 8, "\x00")
	f.Add(uint64(0), -1, "")
	f.Fuzz(func(t *testing.T, n uint64, size int, behind string) {
		fits := size == 8
		if size >= 1 && size <= 7 {
			fits = n < 1<<(8*size)
		}
		if fits {
			checkReadAgain(t, n, size, behind)
		} else if s, e := Put(n, size); s != "" || e != api.ErrArg {
			t.Errorf("Put(%d, %d): %q %v", n, size, s, e)
		}
	})
}

// model is P1.2 word by word: all bytes stay, and a place moves on.
type model struct {
	data  string
	place int
	wrong api.Errno
}

func (m *model) ask(n, least, most int) string {
	if m.wrong != api.OK {
		return ""
	}
	if n < least || n > most {
		m.wrong = api.ErrArg
		return ""
	}
	if n > len(m.data)-m.place {
		m.wrong = api.ErrEnd
		return ""
	}
	m.place += n
	return m.data[m.place-n : m.place]
}

func (m *model) num(size int) uint64 {
	var n uint64
	for _, b := range []byte(m.ask(size, 1, 8)) {
		n = n*256 + uint64(b)
	}
	return n
}

func (m *model) left() int {
	if m.wrong != api.OK {
		return 0
	}
	return len(m.data) - m.place
}

func (m *model) end() api.Errno {
	if m.wrong == api.OK && m.left() > 0 {
		return api.ErrMore
	}
	return m.wrong
}

// TestAllShortTalks lets readers be asked all that can be asked of them, four questions deep.
func TestAllShortTalks(t *testing.T) { // P1.2, R1, R3
	const talks = 24 * 24 * 24 * 24
	for _, data := range []string{"", "\x80", "\x01\xff\x00", "\x01\x02\x03\x04\x05\x06\x07\xf8\x09"} {
		for talk := range talks {
			r, m := Read(data), &model{data: data}
			for rest := talk; rest > 0; rest /= 24 {
				size, isNum := rest%24/2-1, rest%2 == 0
				if isNum && r.Num(size) != m.num(size) {
					t.Fatalf("%q, talk %d: Num(%d)", data, talk, size)
				}
				if !isNum && r.Bytes(size) != m.ask(size, 0, math.MaxInt) {
					t.Fatalf("%q, talk %d: Bytes(%d)", data, talk, size)
				}
				if r.Left() != m.left() || r.End() != m.end() {
					t.Fatalf("%q, talk %d: %d %v, not %d %v", data, talk, r.Left(), r.End(), m.left(), m.end())
				}
			}
		}
	}
}

func TestReadersAreApart(t *testing.T) { // R2, R3
	data := "\x01\x02\x03\x04"
	a, b := Read(data), Read(data)
	if a.Num(9) != 0 || a.End() != api.ErrArg {
		t.Error("size 9")
	}
	if n := b.Num(4); n != 0x01020304 || b.End() != api.OK {
		t.Errorf("another reader's error is told: %x %v", n, b.End())
	}
	if c := Read(data); c.Bytes(4) != data || c.End() != api.OK {
		t.Error("what was read is not read again")
	}
	if data != "\x01\x02\x03\x04" {
		t.Errorf("written into: %q", data)
	}
}

func TestPutAnswersNewMemory(t *testing.T) { // R2, R3
	first, _ := Put(258, 2)
	second, _ := Put(772, 2)
	again, _ := Put(258, 2)
	if first != "\x01\x02" || second != "\x03\x04" || again != first {
		t.Errorf("%q %q %q", first, second, again)
	}
}

func TestManyBytes(t *testing.T) { // Limits: what is read costs no more for what is left
	const size = 1 << 24
	r := Read(strings.Repeat("\x01", size))
	for i := range size / 2 {
		if r.Num(1) != 1 || r.Left() != size-1-i {
			t.Fatalf("byte %d", i)
		}
	}
	if s := r.Bytes(size / 2); len(s) != size/2 || r.End() != api.OK {
		t.Errorf("%d bytes, %v", len(s), r.End())
	}
}
