package instr

import (
	"math"
	"math/rand"
	"slices"
	"strings"
	"testing"

	"drover/api"
)

func checkEncode(t *testing.T, x api.Entry, want string, e api.Errno) {
	t.Helper()
	if s, got := Encode(x); s != want || got != e {
		t.Errorf("Encode of %+v: %x, %d, not %x, %d", x, s, int(got), want, int(e))
	}
}

// checkDecode leaves out of want what does not count.
func checkDecode(t *testing.T, table int, data string, want api.Entry, e api.Errno) {
	t.Helper()
	want.Priority, want.Tests = 0, nil
	if x, got := Decode(table, data); !same(x, want) || got != e {
		t.Errorf("Decode of table %d and %x: %+v, %d, not %+v, %d", table, data, x, int(got), want, int(e))
	}
}

// checkBytes holds an entry against its bytes, both ways.
func checkBytes(t *testing.T, digits string, x api.Entry) {
	t.Helper()
	checkEncode(t, x, unhex(digits), api.OK)
	checkDecode(t, x.Table, unhex(digits), x, api.OK)
}

func checkRefused(t *testing.T, table int, want api.Errno, digits string) {
	t.Helper()
	checkDecode(t, table, unhex(digits), api.Entry{}, want)
}

// The parts of whole, in the table's order.
const (
	meterDigits = "0006 0008 00000010"
	applyDigits = "0004 0020 00000000 0012 0008 00000000 0000 0010 00000009 ffff 000000000000"
	clearDigits = "0005 0008 00000000"
	writeDigits = "0003 0020 00000000 0016 0008 00000005 0019 0010 8000 1c 02 0050 000000000000"
	metaDigits  = "0002 0018 00000000 0002000000000002 0002000000000006"
	gotoDigits  = "0001 0008 07 000000"
	wholeDigits = meterDigits + applyDigits + clearDigits + writeDigits + metaDigits + gotoDigits
)

// whole has something in each part.
func whole() api.Entry {
	return api.Entry{Table: 1, Meter: 16, Apply: list(pop, output(9)), Clear: true, Write: list(toGroup(5), set(api.Dport, 80)),
		Meta: 0x0002000000000002, MetaMask: 0x0002000000000006, Goto: 7}
}

func wholeParts() []string {
	return []string{meterDigits, applyDigits, clearDigits, writeDigits, metaDigits, gotoDigits}
}

func TestBytesOfNothing(t *testing.T) { // P7.1, P7.2
	for table := range 8 {
		checkBytes(t, "", api.Entry{Table: table})
		checkBytes(t, "", api.Entry{Table: table, Apply: list(), Write: list()})
	}
}

func TestBytesOfEachPart(t *testing.T) { // P7.1, P7.2
	for table := range 8 {
		checkBytes(t, "0006 0008 00000001", api.Entry{Table: table, Meter: 1})
		checkBytes(t, "0006 0008 00000010", api.Entry{Table: table, Meter: 16})
		checkBytes(t, "0004 0010 00000000 0012 0008 00000000", api.Entry{Table: table, Apply: list(pop)})
		checkBytes(t, applyDigits, api.Entry{Table: table, Apply: list(pop, output(9))})
		checkBytes(t, "0005 0008 00000000", api.Entry{Table: table, Clear: true})
		checkBytes(t, "0003 0018 00000000 0000 0010 01020304 ffff 000000000000", api.Entry{Table: table, Write: list(output(0x01020304))})
		checkBytes(t, writeDigits, api.Entry{Table: table, Write: list(toGroup(5), set(api.Dport, 80))})
		checkBytes(t, "0002 0018 00000000 0000000000000000 0000000000000001", api.Entry{Table: table, MetaMask: 1})
		checkBytes(t, "0002 0018 00000000 0102030405060708 f1f2f3f4f5f6f7f8", api.Entry{Table: table, Meta: 0x0102030405060708, MetaMask: 0xf1f2f3f4f5f6f7f8})
		checkBytes(t, "0002 0018 00000000 ffffffffffffffff ffffffffffffffff", api.Entry{Table: table, Meta: math.MaxUint64, MetaMask: math.MaxUint64})
		checkBytes(t, "0002 0018 00000000 0000000000000000 8000000000000000", api.Entry{Table: table, MetaMask: 1 << 63})
	}
	checkBytes(t, "0001 0008 01 000000", api.Entry{Goto: 1})
	checkBytes(t, "0001 0008 02 000000", api.Entry{Goto: 2})
	checkBytes(t, "0001 0008 07 000000", api.Entry{Goto: 7})
	checkBytes(t, "0001 0008 07 000000", api.Entry{Table: 6, Goto: 7})
	// The chapter's example.
	checkRefused(t, 2, api.ErrInstr, "0001 0008 02 000000")
}

// P7.1, P7.2: each choice of parts has its bytes in the table's order.
func TestBytesOfAllParts(t *testing.T) {
	checkBytes(t, wholeDigits, whole())
	for chosen := range 64 {
		x, digits := whole(), ""
		for i, part := range wholeParts() {
			if chosen>>i&1 == 1 {
				digits += part
				continue
			}
			switch i {
			case 0:
				x.Meter = 0
			case 1:
				x.Apply = nil
			case 2:
				x.Clear = false
			case 3:
				x.Write = nil
			case 4:
				x.Meta, x.MetaMask = 0, 0
			case 5:
				x.Goto = 0
			}
		}
		checkBytes(t, digits, x)
	}
}

func TestBytesOfManyActions(t *testing.T) { // P7.1, P7.2, P7.3
	one := "0000 0010 00000009 ffff 000000000000"
	outputs := slices.Repeat(list(output(9)), 32)
	checkBytes(t, "0004 0208 00000000"+strings.Repeat(one, 32), api.Entry{Apply: outputs})
	checkBytes(t, "0003 0208 00000000"+strings.Repeat(one, 32), api.Entry{Write: outputs})
	checkBytes(t, "0004 0108 00000000"+strings.Repeat("0012 0008 00000000", 32)+"0003 0208 00000000"+strings.Repeat(one, 32),
		api.Entry{Apply: pops(32), Write: outputs})
	// Of bytes of too many act.Decode has an error, which is ErrBytes here.
	checkRefused(t, 0, api.ErrBytes, "0004 0218 00000000"+strings.Repeat(one, 33))
	checkRefused(t, 0, api.ErrBytes, "0003 0218 00000000"+strings.Repeat(one, 33))
	checkRefused(t, 0, api.ErrBytes, "0004 fff8 00000000"+strings.Repeat("0012 0008 00000000", 8190))
}

func TestDecodeOfTables(t *testing.T) { // P7.2
	for _, table := range noTables {
		checkRefused(t, table, api.ErrTable, "")
		checkRefused(t, table, api.ErrTable, "00")
		checkRefused(t, table, api.ErrTable, wholeDigits)
		checkRefused(t, table, api.ErrTable, "0007 0008 00000000")
		checkRefused(t, table, api.ErrTable, gotoDigits+gotoDigits)
		checkRefused(t, table, api.ErrTable, "0006 0008 00000011")
	}
	for table := range 8 {
		x := whole()
		x.Table = table
		if table == 7 {
			checkRefused(t, table, api.ErrInstr, wholeDigits)
			continue
		}
		checkBytes(t, wholeDigits, x)
	}
}

// P7.2: a beginning is right where a part ends, and else ends too early.
func TestDecodeOfBeginnings(t *testing.T) {
	data := unhex(wholeDigits)
	ends := map[int]bool{0: true}
	size := 0
	for _, part := range wholeParts() {
		size += len(unhex(part))
		ends[size] = true
	}
	for n := range len(data) + 1 {
		want := api.ErrEnd
		if ends[n] {
			want = api.OK
		}
		if _, e := Decode(1, data[:n]); e != want {
			t.Errorf("%d bytes: %d, not %d", n, int(e), int(want))
		}
		x, e := slowDecode(1, data[:n])
		checkDecode(t, 1, data[:n], x, e)
	}
	for _, digits := range wholeParts() {
		part := unhex(digits)
		for n := 1; n < len(part); n++ {
			checkDecode(t, 0, part[:n], api.Entry{}, api.ErrEnd)
		}
	}
}

// P7.2, T1: each byte of the whole turned, to each other one.
func TestDecodeOfTurnedBytes(t *testing.T) {
	data := unhex(wholeDigits)
	for i := range data {
		for v := range 256 {
			b := []byte(data)
			b[i] = byte(v)
			x, e := slowDecode(1, string(b))
			checkDecode(t, 1, string(b), x, e)
			if e == api.OK {
				checkEncode(t, x, string(b), api.OK)
			}
		}
	}
}

// P7.2: what says fewer than 8, or not what the table says.
func TestDecodeOfLength(t *testing.T) {
	for _, number := range []string{"0001", "0002", "0003", "0004", "0005", "0006", "0000", "0007", "ffff"} {
		for _, size := range []string{"0000", "0001", "0002", "0003", "0004"} {
			checkRefused(t, 0, api.ErrBytes, number+size)
			checkRefused(t, 0, api.ErrBytes, number+size+"00000000")
		}
		checkRefused(t, 0, api.ErrEnd, number+"0005")
		checkRefused(t, 0, api.ErrBytes, number+"0005"+"00")
		checkRefused(t, 0, api.ErrEnd, number+"0007"+"0000")
		checkRefused(t, 0, api.ErrBytes, number+"0007"+"000000")
		checkRefused(t, 0, api.ErrBytes, number+"0007"+"00000000")
		checkRefused(t, 0, api.ErrEnd, number+"0008"+"000000")
		checkRefused(t, 0, api.ErrEnd, number+"0009"+"00000000")
		checkRefused(t, 0, api.ErrEnd, number+"ffff"+"00000000")
	}
	for _, digits := range []string{
		"0006 0009 00000001 00",
		"0006 0010 00000001 0000000000000000",
		"0006 0010 0000000000000001 00000000",
		"0005 0009 00000000 00",
		"0005 0010 00000000 0000000000000000",
		"0001 0009 01 000000 00",
		"0001 0010 01 000000 0000000000000000",
		"0002 0008 00000000",
		"0002 0010 00000000 0000000000000002",
		"0002 0017 00000000 0000000000000002 00000000000006",
		"0002 0019 00000000 0000000000000002 0000000000000006 00",
		"0002 0020 00000000 0000000000000002 0000000000000006 0000000000000000",
		"0004 0009 00000000 00",
		"0004 000f 00000000 0012 0008 000000",
		"0004 0011 00000000 0012 0008 00000000 00",
		"0003 000f 00000000 0012 0008 000000",
		"0003 0011 00000000 0012 0008 00000000 00",
	} {
		checkRefused(t, 0, api.ErrBytes, digits)
	}
}

// P7.2: each first two bytes, with each part's rest behind them.
func TestDecodeOfNumbers(t *testing.T) {
	for _, digits := range append(wholeParts(), "0004 0010 00000000 0012 0008 00000000", "0003 0010 00000000 0012 0008 00000000") {
		part := unhex(digits)
		for n := range 65536 {
			data := string([]byte{byte(n >> 8), byte(n)}) + part[2:]
			want, e := api.Entry{}, api.ErrBytes
			// Behind another number some are that part's: what a Write has is what an Apply has.
			if n < 16 {
				want, e = slowDecode(0, data)
			}
			checkDecode(t, 0, data, want, e)
		}
	}
}

// P7.2: each order of two parts, and each part twice.
func TestDecodeOfOrder(t *testing.T) {
	parts := wholeParts()
	for i, first := range parts {
		for j, second := range parts {
			if i < j {
				x, e := slowDecode(1, unhex(first+second))
				if e != api.OK {
					t.Fatal(i, j, int(e))
				}
				checkBytes(t, first+second, x)
				continue
			}
			checkRefused(t, 1, api.ErrInstr, first+second)
			checkRefused(t, 1, api.ErrInstr, first+second+gotoDigits)
		}
	}
	// The same part with something else in it is twice, too.
	checkRefused(t, 0, api.ErrInstr, "0001 0008 01 000000 0001 0008 02 000000")
	checkRefused(t, 0, api.ErrInstr, "0006 0008 00000001 0006 0008 00000002")
	checkRefused(t, 0, api.ErrInstr, applyDigits+"0004 0010 00000000 0012 0008 00000000")
	// All of them, with two that stand beside each other changed.
	for i := range len(parts) - 1 {
		l := wholeParts()
		l[i], l[i+1] = l[i+1], l[i]
		checkRefused(t, 1, api.ErrInstr, strings.Join(l, ""))
	}
	checkRefused(t, 1, api.ErrInstr, wholeDigits+wholeDigits)
}

// P7.2: of Apply and Write there is one action at least, and all are right.
func TestDecodeOfActions(t *testing.T) {
	for _, number := range []string{"0004", "0003"} {
		for _, rest := range []string{
			"0008 00000000",                                            // none
			"000c 00000000 0012 0008",                                  // cut off
			"0010 00000000 0012 0010 00000000",                         // act's ErrEnd
			"0010 00000000 0012 0004 00000000",                         // says too few
			"0010 00000000 0012 0008 00000001",                         // not a Pop
			"0010 00000000 0011 0008 00000000",                         // not a Push
			"0010 00000000 0016 0008 00000000",                         // the group 0
			"0018 00000000 0000 0010 00000000 ffff 000000000000",       // the port 0
			"0018 00000000 0000 0010 00000001 0000 000000000000",       // another limit
			"0018 00000000 0019 0010 8000 0c 02 0fff 000000000000",     // no tag
			"0018 00000000 0012 0008 00000000 0017 0008 00000000",      // one that is none behind one
			"0010 00000000 0000 0000 00000000",                         // nothing but 00
			"0010 00000000 0004 0010 00000000",                         // a part's head
			"0018 00000000 0004 0010 00000000 0012 0008 00000000",      // a part within a part
			"0010 00000000 0000000000000000",                           // nothing but 00, too
			"0018 00000000 0000000000000000 0012 0008 00000000",        // behind too many 00
			"0010 00000001 0012 0008 00000000",                         // what must be 00 and is not
			"0010 01000000 0012 0008 00000000",                         // likewise
			"0010 00ff0000 0012 0008 00000000",                         // likewise
			"0010 00000100 0012 0008 00000000",                         // likewise
			"0008 00000001",                                            // likewise, with none
			"0008 ffffffff",                                            // likewise
			"000c 0012 0008 00000000",                                  // without the four 00
			"0018 00000000 0012 0008 00000000 00000000" + "0000 0000",  // 00 behind the last one
			"0014 00000000 0012 0008 00000000" + "0000 0000",           // likewise
			"0010 00000000 0012 0008 00000000" + "0007 0008 00000000",  // and then a part that is none
			"0010 00000000 0012 0008 00000001" + "0004 0010",           // and then one that is cut off
			"0010 00000000 0012 0008 00000001" + "0001 0008 01 000000", // and then one that is right
			"0010 00000000 0012 0008 00000001" + "0006 0008 00000001",  // and then one that stands wrong
			"0010 00000000 0012 0008 00000001" + "0001 0008 08 000000", // and then one that may not be
			"0008 00000000" + "0012 0008 00000000",                     // the action behind the part
		} {
			checkRefused(t, 0, api.ErrBytes, number+rest)
		}
	}
}

// P7.2: bytes that must be 00, each of them turned.
func TestDecodeOfZeros(t *testing.T) {
	for _, c := range []struct {
		digits      string
		first, last int
	}{
		{applyDigits, 4, 7},
		{clearDigits, 4, 7},
		{writeDigits, 4, 7},
		{metaDigits, 4, 7},
		{gotoDigits, 5, 7},
	} {
		for i := c.first; i <= c.last; i++ {
			for v := 1; v < 256; v++ {
				b := []byte(unhex(c.digits))
				if b[i] != 0 {
					t.Fatal(c.digits, i)
				}
				b[i] = byte(v)
				checkDecode(t, 1, string(b), api.Entry{}, api.ErrBytes)
			}
		}
	}
}

// P7.2: a part that says nothing would not have been written.
func TestDecodeOfPartsOfNothing(t *testing.T) {
	for table := range 8 {
		checkRefused(t, table, api.ErrBytes, "0006 0008 00000000")
		checkRefused(t, table, api.ErrBytes, "0001 0008 00 000000")
		checkRefused(t, table, api.ErrBytes, "0002 0018 00000000 0000000000000000 0000000000000000")
		// That is told ahead of Meta's bits that MetaMask has not.
		checkRefused(t, table, api.ErrBytes, "0002 0018 00000000 0000000000000001 0000000000000000")
	}
}

func TestDecodeOfGoto(t *testing.T) { // P7.2
	for table := range 8 {
		for to := 1; to < 256; to++ {
			data := "\x00\x01\x00\x08" + string([]byte{byte(to)}) + "\x00\x00\x00"
			if to > table && to < 8 {
				checkDecode(t, table, data, api.Entry{Table: table, Goto: to}, api.OK)
				continue
			}
			checkDecode(t, table, data, api.Entry{}, api.ErrInstr)
		}
	}
}

func TestDecodeOfMeter(t *testing.T) { // P7.2
	for _, digits := range []string{"00000011", "00000012", "00000100", "00000101", "00010001", "01000001", "7fffffff", "80000000", "80000001", "ffffffff"} {
		checkRefused(t, 0, api.ErrMeter, "0006 0008"+digits)
		checkRefused(t, 0, api.ErrMeter, "0006 0008"+digits+applyDigits+gotoDigits)
	}
}

func TestDecodeOfMeta(t *testing.T) { // P7.2
	for _, digits := range []string{
		"0000000000000001 0000000000000002",
		"0000000000000003 0000000000000002",
		"8000000000000000 7fffffffffffffff",
		"ffffffffffffffff fffffffffffffffe",
		"0000000100000000 00000000ffffffff",
		"ffffffffffffffff 0000000000000001",
	} {
		checkRefused(t, 0, api.ErrInstr, "0002 0018 00000000"+digits)
		checkRefused(t, 0, api.ErrInstr, "0002 0018 00000000"+digits+gotoDigits)
	}
}

// P7.2, R1: part by part, and of one part what is named first; what an entry may not do comes last.
func TestDecodeOfSeveralErrors(t *testing.T) {
	const (
		none, cut, small = "0007 0008 00000000", "0006 0008 00", "0006 0004"
		meter, back      = "0006 0008 00000011", "0001 0008 01 000000"
		meta             = "0002 0018 00000000 0000000000000001 0000000000000002"
	)
	for _, c := range []struct {
		digits string
		want   api.Errno
	}{
		{none + cut, api.ErrBytes},
		{none + small, api.ErrBytes},
		{small + cut, api.ErrBytes},
		{"ffff 0005", api.ErrEnd},
		{"0007 0010 00000000", api.ErrEnd},
		// What says more than there is takes all that follows.
		{"0007 0040 00000000" + small + none, api.ErrEnd},
		// The second one of these stands wrong; what is wrong with its bytes is told ahead of that.
		{clearDigits + "0006 0008 00", api.ErrEnd},
		{clearDigits + "0006 0004", api.ErrBytes},
		{clearDigits + "0006 0008 00000000", api.ErrBytes},
		{clearDigits + "0005 0008 00000001", api.ErrBytes},
		{clearDigits + "0004 0008 00000000", api.ErrBytes},
		// What stands wrong is told ahead of what comes behind it.
		{clearDigits + meterDigits + cut, api.ErrInstr},
		{clearDigits + meterDigits + small, api.ErrInstr},
		{clearDigits + meterDigits + none, api.ErrInstr},
		{clearDigits + clearDigits + "00", api.ErrInstr},
		{clearDigits + none + meterDigits, api.ErrBytes},
		// What an entry may not do is told behind all of that.
		{meter + cut, api.ErrEnd},
		{meter + "00", api.ErrEnd},
		{meter + small, api.ErrBytes},
		{meter + none, api.ErrBytes},
		{meter + meter, api.ErrInstr},
		{clearDigits + meter, api.ErrInstr},
		{meta + "00", api.ErrEnd},
		{meta + none, api.ErrBytes},
		{back + "00", api.ErrEnd},
		{back + none, api.ErrBytes},
		// And of that what Right names first.
		{meter + meta, api.ErrMeter},
		{meter + back, api.ErrMeter},
		{meter + meta + back, api.ErrMeter},
		{meta + back, api.ErrInstr},
		{meterDigits + meta, api.ErrInstr},
		{meterDigits + back, api.ErrInstr},
	} {
		checkRefused(t, 1, c.want, c.digits)
	}
}

func TestEncodeModel(t *testing.T) { // P7.1, P7.3
	r := rand.New(rand.NewSource(4))
	for range 50000 {
		x := anyEntry(r)
		want, e := slowEncode(x)
		checkEncode(t, x, want, e)
		if e == api.OK {
			checkDecode(t, x.Table, want, x, api.OK)
		}
	}
}

// damaged is bytes with some of them changed, or parts of them away, twice, or elsewhere.
func damaged(r *rand.Rand, parts []string) string {
	for range r.Intn(3) {
		if len(parts) > 0 {
			i, j := r.Intn(len(parts)), r.Intn(len(parts))
			parts[i], parts[j] = parts[j], parts[i]
		}
	}
	if len(parts) > 0 && r.Intn(6) == 0 {
		parts = append(parts, parts[r.Intn(len(parts))])
	}
	b := []byte(unhex(strings.Join(parts, "")))
	for range min(len(b), r.Intn(3)) {
		b[r.Intn(len(b))] = [...]byte{0, 1, 4, 8, 16, 24, byte(r.Intn(8)), byte(r.Intn(256))}[r.Intn(8)]
	}
	if len(b) > 0 && r.Intn(8) == 0 {
		b = b[:r.Intn(len(b))]
	}
	return string(b)
}

// P7.2, P7.3: any bytes, most of them nearly an entry's.
func TestDecodeModel(t *testing.T) {
	r := rand.New(rand.NewSource(5))
	for range 50000 {
		x := anyEntry(r)
		if slowRight(x) != api.OK {
			continue
		}
		data := damaged(r, slowParts(x))
		table := r.Intn(10) - 1
		want, e := slowDecode(table, data)
		checkDecode(t, table, data, want, e)
		if e == api.OK {
			checkEncode(t, want, data, api.OK)
		}
	}
}

func FuzzDecode(f *testing.F) { // R1, P7.2, P7.3
	for _, digits := range append(wholeParts(), wholeDigits, "") {
		f.Add(1, unhex(digits))
		f.Add(8, unhex(digits))
	}
	f.Fuzz(func(t *testing.T, table int, data string) {
		want, e := slowDecode(table, data)
		checkDecode(t, table, data, want, e)
		if e == api.OK {
			checkEncode(t, want, data, api.OK)
		}
	})
}

// R2: what Decode answers is the caller's, and its two lists are not one.
func TestDecodedIsNew(t *testing.T) {
	data := unhex(wholeDigits)
	first, _ := Decode(1, data)
	second, _ := Decode(1, data)
	fill := func(l []api.Action) {
		for i := range l[:cap(l)] {
			l[:cap(l)][i] = output(77)
		}
	}
	fill(first.Apply)
	if !slices.Equal(first.Write, whole().Write) {
		t.Errorf("%+v shares memory with the other list", first.Write)
	}
	fill(first.Write)
	if !same(second, whole()) {
		t.Errorf("%+v shares memory with an earlier answer", second)
	}
	checkDecode(t, 1, data, whole(), api.OK)
	checkEncode(t, second, data, api.OK)
}
