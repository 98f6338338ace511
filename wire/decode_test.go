package wire

import (
	"math/rand"
	"slices"
	"strings"
	"testing"

	"drover/api"
)

// checkBytes holds an answer of Decode against the model; what is decoded is encoded again.
func checkBytes(t *testing.T, data string) {
	t.Helper()
	want, n, e := slowDecode(data)
	m, size, got := Decode(data)
	if !same(m, want) || size != n || got != e {
		t.Errorf("Decode of %x: %+v, %d, %d, not %+v, %d, %d", data, m, size, int(got), want, n, int(e))
	}
	if got != api.OK {
		return
	}
	if s, e := Encode(m); s != data[:size] || e != api.OK {
		t.Errorf("Encode of what %x is decoded to: %x, %d", data, s, int(e))
	}
}

func checkRefused(t *testing.T, want api.Errno, digits string) {
	t.Helper()
	data := unhex(digits)
	if m, n, e := Decode(data); !same(m, Message{}) || n != 0 || e != want {
		t.Errorf("Decode of %x: %+v, %d, %d, not %d", data, m, n, int(e), int(want))
	}
	checkBytes(t, data)
}

// sized is digits with the length of all of them set.
func sized(digits string) string {
	digits = strings.ReplaceAll(digits, " ", "")
	return digits[:4] + tohex(put(len(digits)/2, 2)) + digits[8:]
}

func checkSized(t *testing.T, digits string) {
	t.Helper()
	checkRefused(t, api.ErrBytes, sized(digits))
	checkRefused(t, api.ErrBytes, sized(digits)+"0400000800000000")
}

func TestExamples(t *testing.T) { // P8.1, P8.2
	if s, e := Encode(Message{Kind: Hello, Xid: 1}); s != unhex("04 00 00 08 00 00 00 01") || e != api.OK {
		t.Errorf("%x, %d", s, int(e))
	}
	checkRefused(t, api.ErrBytes, "03 00 00 08 00 00 00 01")
}

// P8.2: every beginning ends too early.
func TestDecodeOfBeginnings(t *testing.T) {
	for _, w := range written {
		digits := tohex(unhex(w.digits))
		for n := 0; n < len(digits); n += 2 {
			checkRefused(t, api.ErrEnd, digits[:n])
		}
	}
}

// P8.2: fewer than 8 bytes are told ahead of what is wrong with them.
func TestDecodeOfFewBytes(t *testing.T) {
	for n := range 8 {
		for _, b := range []string{"00", "03", "04", "05", "ff"} {
			checkRefused(t, api.ErrEnd, strings.Repeat(b, n))
		}
		checkRefused(t, api.ErrEnd, "0300000700000000"[:2*n])
		checkRefused(t, api.ErrEnd, "0400000000000000"[:2*n])
	}
}

// P8.2: what is wrong with the head is told ahead of bytes that are missing.
func TestDecodeOfHeads(t *testing.T) {
	for first := range 256 {
		if first == version {
			continue
		}
		head := tohex(put(first, 1))
		checkRefused(t, api.ErrBytes, head+"00 0008 00000000")
		checkRefused(t, api.ErrBytes, head+"00 0008 00000000 0400000800000000")
		checkRefused(t, api.ErrBytes, head+"00 0009 00000000")
		checkRefused(t, api.ErrBytes, head+"00 ffff 00000000")
		checkRefused(t, api.ErrBytes, head+"63 0000 00000000")
	}
	for kind := range 256 {
		head := "04" + tohex(put(kind, 1))
		for n := range 8 {
			checkRefused(t, api.ErrBytes, head+tohex(put(n, 2))+"00000000")
			checkRefused(t, api.ErrBytes, head+tohex(put(n, 2))+"00000000 0102030405060708")
		}
		for _, n := range []int{9, 10, 16, 255, 256, 264, 512, 2048, 65535} {
			checkRefused(t, api.ErrEnd, head+tohex(put(n, 2))+"00000000")
			checkRefused(t, api.ErrEnd, head+tohex(put(n, 2))+"00000000"+zeroDigits(n-9))
		}
		data := unhex(head + "0008 00000000")
		checkBytes(t, data)
		if _, _, e := Decode(data); (e == api.OK) != slices.Contains([]int{Hello, Echo, EchoBack, Barrier, BarrierBack}, kind) {
			t.Errorf("Decode of %x: %d", data, int(e))
		}
	}
}

// P8.2, P8.3: bytes of which one is another one are refused, or those of another message.
func TestDecodeOfTurnedBytes(t *testing.T) {
	for _, w := range written {
		data := []byte(unhex(w.digits))
		for i := range data {
			was := data[i]
			for turn := 1; turn < 256; turn++ {
				data[i] = was ^ byte(turn)
				checkBytes(t, string(data))
			}
			data[i] = was
		}
	}
}

// P8.2: a length that is not the body's.
func TestDecodeOfOtherLengths(t *testing.T) {
	for _, w := range written {
		data := unhex(w.digits)
		long := data + strings.Repeat("\x00", 40) + strings.Repeat("\xff", 40) + data
		for n := range len(long) + 20 {
			checkBytes(t, data[:2]+put(n, 2)+long[4:])
		}
	}
	for _, digits := range []string{
		"04000009 00000000 00",
		"04000010 00000000 0400000800000000",
		"04140009 00000000 00",
		"0415000c 00000000 00000000",
		"0401000b 00000000 000000",
		"04010008 00000000",
	} {
		checkRefused(t, api.ErrBytes, digits)
	}
	for _, kind := range []string{"0c 0050", "0c 004f", "0c 0051", "0d 0017", "0e 0037", "0e 0030", "0e 0008", "0f 000f", "0f 0008", "0f 0011", "1d 001f", "1d 0021", "1d 0008"} {
		checkRefused(t, api.ErrBytes, "04"+kind+"00000000"+zeroDigits(80))
	}
}

// P8.2: data that is too long is no right message's.
func TestDecodeOfGreatData(t *testing.T) {
	for kind, most := range map[string]int{"01": 64, "02": 1000, "03": 1000, "0d": 1500} {
		head := map[string]string{"01": "00010002", "0d": "ffffffff 00000001 0000 000000000000"}[kind]
		for _, n := range []int{most - 1, most, most + 1, most + 2, 2 * most, 32768, 65535 - 8 - 16} {
			digits := sized("04" + kind + "0000 00000000" + head + strings.Repeat("61", n))
			checkBytes(t, unhex(digits))
			if _, _, e := Decode(unhex(digits)); (e == api.OK) != (n <= most) {
				t.Errorf("Decode of %d bytes of data of the Kind %s: %d", n, kind, int(e))
			}
		}
	}
}

func TestDecodeOfPortStatus(t *testing.T) { // P8.2
	for _, c := range []struct{ port, state string }{
		{"00000000", "00000000"}, {"00000011", "00000000"}, {"00000100", "00000001"}, {"01000001", "00000001"}, {"ffffffff", "00000000"},
		{"00000001", "00000002"}, {"00000001", "00000003"}, {"00000001", "00000100"}, {"00000001", "01000000"}, {"00000001", "ffffffff"},
	} {
		checkSized(t, "040c0000 00000000 02 00000000000000"+c.port+zeroDigits(32)+c.state+zeroDigits(24))
	}
	checkSized(t, "040c0000 00000000 00 00000000000000 00000001"+zeroDigits(32)+"00000000"+zeroDigits(24))
	checkSized(t, "040c0000 00000000 02 00000000000001 00000001"+zeroDigits(32)+"00000000"+zeroDigits(24))
	checkSized(t, "040c0000 00000000 02 00000000000000 00000001"+zeroDigits(31)+"01 00000000"+zeroDigits(24))
	checkSized(t, "040c0000 00000000 02 00000000000000 00000001"+zeroDigits(32)+"00000000"+zeroDigits(23)+"ff")
	checkSized(t, "040c0000 00000000 02 00000000000000 00000001"+zeroDigits(32)+"00000000"+zeroDigits(23))
	checkSized(t, "040c0000 00000000 02 00000000000000 00000001"+zeroDigits(32)+"00000000"+zeroDigits(25))
}

func TestDecodeOfPackets(t *testing.T) { // P8.2
	head := "040d0000 00000000 "
	many := strings.Repeat(popDigits, 33)
	for _, rest := range []string{
		"ffffffff 00000011 0000 000000000000",
		"ffffffff ffffffff 0000 000000000000",
		"fffffffe 00000001 0000 000000000000",
		"00000000 00000001 0000 000000000000",
		"ffffffff 00000001 0000 000000000001",
		"ffffffff 00000001 0000 010000000000",
		"ffffffff 00000001 0001 000000000000",
		"ffffffff 00000001 0001 000000000000 00",
		"ffffffff 00000001 0004 000000000000 00000000",
		"ffffffff 00000001 0007 000000000000" + popDigits,
		"ffffffff 00000001 0009 000000000000" + popDigits,
		"ffffffff 00000001 000c 000000000000" + popDigits + "00000000",
		"ffffffff 00000001 0010 000000000000" + popDigits,
		"ffffffff 00000001 ffff 000000000000" + popDigits,
		"ffffffff 00000001 0008 000000000000 0013 0008 00000000",
		"ffffffff 00000001 0108 000000000000" + many,
		"ffffffff 00000001 0000 0000000000",
	} {
		checkSized(t, head+rest)
	}
	// Behind as many bytes as are said to be actions' all is data.
	data := unhex(sized(head + "ffffffff 00000001 0100 000000000000" + many))
	checkDecoded(t, data, Message{Kind: PacketOut, Port: 1, Actions: pops(32), Data: unhex(popDigits)}, len(data))
	data = unhex(sized(head + "ffffffff 00000000 0000 000000000000" + popDigits))
	checkDecoded(t, data, Message{Kind: PacketOut, Data: unhex(popDigits)}, len(data))
}

func TestDecodeOfFlows(t *testing.T) { // P8.2
	zeros, ones := zeroDigits(16), strings.Repeat("ff", 12)
	for _, body := range []string{
		zeros + "00 05 00000000 0000" + ones + "0000 0000 0001000400000000",
		zeros + "00 ff 00000000 0000" + ones + "0000 0000 0001000400000000",
		zeros + "08 00 00000000 0000" + ones + "0000 0000 0001000400000000",
		zeros + "ff 00 00000000 0000" + ones + "0000 0000 0001000400000000",
		zeros + "00 00 00000001 0000" + ones + "0000 0000 0001000400000000",
		zeros + "00 00 00000000 0000" + ones + "0001 0000 0001000400000000",
		zeros + "00 00 00000000 0000" + ones + "0003 0000 0001000400000000",
		zeros + "00 00 00000000 0000" + ones + "0200 0000 0001000400000000",
		zeros + "00 00 00000000 0000" + ones + "0002 0001 0001000400000000",
		zeros + "00 00 00000000 0000" + ones + "0000 0000",
		zeros + "00 00 00000000 0000" + ones + "0000 0000 00",
		zeros + "00 00 00000000 0000" + ones + "0000 0000 00010004",
		zeros + "00 00 00000000 0000" + ones + "0000 0000 00010004000000",
		zeros + "00 00 00000000 0000" + ones + "0000 0000 0001000400000001",
		zeros + "00 00 00000000 0000" + ones + "0000 0000 0000000400000000",
		zeros + "00 00 00000000 0000" + ones + "0000 0000 0001000000000000",
		zeros + "00 00 00000000 0000" + ones + "0000 0000 0001000a80000a020800 000000000001",
		zeros + "00 00 00000000 0000" + ones + "0000 0000 0001000400000000 00",
		zeros + "00 00 00000000 0000" + ones + "0000 0000 0001000400000000 00000000",
		zeros + "00 00 00000000 0000" + ones + "0000 0000 0001000400000000 0001000400000000",
		zeros + "00 00 00000000 0000" + ones + "0000 0000 0001000400000000 0001000800000000",
		zeros + "02 00 00000000 0000" + ones + "0000 0000 0001000400000000 0001000802000000",
		zeros + "00 00 00000000 0000" + ones + "0000 0000 0001000400000000 0001000808000000",
		zeros + "00 00 00000000 0000" + ones + "0000 0000 0001000400000000 0001000801000000 0006000800000001",
		zeros + "00 00 00000000 0000" + ones + "0000 0000 0001000400000000 0006000800000011",
		zeros + "00 00 00000000 0000" + ones + "0000 0000 0001000400000000 0006000800000001 0006000800000001",
		// Ports without the tests ahead that they need.
		zeros + "00 00 00000000 0000" + ones + "0000 0000 0001000a80001c02005000000000 0000",
		zeros + "00 00 00000000 0000" + ones[2:] + "00 0000 0000 0001000400000000",
		zeros[2:] + "01 00 00 00000000 0000" + ones + "0000 0000 0001000400000000",
		"",
	} {
		checkSized(t, "040e0000 00000000"+body)
	}
}

func TestDecodeOfGroups(t *testing.T) { // P8.2
	head := "040f0000 00000000 "
	for _, body := range []string{
		"0003 00 00 00000001",
		"0100 00 00 00000001",
		"ffff 00 00 00000001",
		"0000 04 00 00000001",
		"0000 ff 00 00000001",
		"0000 00 01 00000001",
		"0000 00 00 00000000",
		"0000 00 00 00010000",
		"0000 00 00 ffffffff",
		"0000 00 00 000001",
		"0000 00 00 00000001 00",
		"0000 00 00 00000001 0010",
		"0000 00 00 00000001" + emptyBucket[:len(emptyBucket)-2],
		"0000 00 00 00000001" + emptyBucket + "00",
		"0000 00 00 00000001" + emptyBucket + "0010 0000 ffffffff ffffffff",
	} {
		checkSized(t, head+body)
	}
	head += "0000 00 00 00000001 "
	for _, bucket := range []string{
		"0000 0000 ffffffff ffffffff 00000000",
		"0001 0000 ffffffff ffffffff 00000000",
		"0008 0000 ffffffff ffffffff 00000000",
		"000f 0000 ffffffff ffffffff 00000000",
		"0011 0000 ffffffff ffffffff 00000000",
		"0018 0000 ffffffff ffffffff 00000000",
		"0020 0000 ffffffff ffffffff 00000000",
		"ffff 0000 ffffffff ffffffff 00000000",
		"0010 0000 00000000 ffffffff 00000000",
		"0010 0000 00010000 ffffffff 00000000",
		"0010 0000 fffffffe ffffffff 00000000",
		"0010 0000 ffffffff fffffffe 00000000",
		"0010 0000 ffffffff 00000000 00000000",
		"0010 0000 ffffffff 7fffffff 00000000",
		"0010 0000 ffffffff ffffffff 00000001",
		"0010 0000 ffffffff ffffffff 01000000",
		"0010 0000 ffffffff ffffffff 00000000" + popDigits,
		"0017 0000 ffffffff ffffffff 00000000" + popDigits,
		"0019 0000 ffffffff ffffffff 00000000" + popDigits + "00",
		"0018 0000 ffffffff ffffffff 00000000 0013000800000000",
		"0018 0000 ffffffff ffffffff 00000000 0012000900000000",
		"0058 0000 ffffffff ffffffff 00000000" + strings.Repeat(popDigits, 9),
		"0118 0000 ffffffff ffffffff 00000000" + strings.Repeat(popDigits, 33),
	} {
		checkSized(t, head+bucket)
		checkSized(t, head+emptyBucket+bucket)
		checkRefused(t, api.ErrBytes, sized(head+bucket+strings.Repeat(emptyBucket, 3)))
	}
	for n := range 20 {
		data := unhex(sized(head + strings.Repeat(emptyBucket, n)))
		checkBytes(t, data)
		if _, _, e := Decode(data); (e == api.OK) != (n <= 16) {
			t.Errorf("Decode of %d buckets: %d", n, int(e))
		}
	}
	checkSized(t, head+strings.Repeat(emptyBucket, 4000))
}

func TestDecodeOfMeters(t *testing.T) { // P8.2
	for _, body := range []string{
		"0003 0005 00000001 00010010 00000000 00000000 00000000",
		"0100 0005 00000001 00010010 00000000 00000000 00000000",
		"0000 0004 00000001 00010010 00000000 00000000 00000000",
		"0000 0500 00000001 00010010 00000000 00000000 00000000",
		"0000 0005 00000000 00010010 00000000 00000000 00000000",
		"0000 0005 00000011 00010010 00000000 00000000 00000000",
		"0000 0005 00000101 00010010 00000000 00000000 00000000",
		"0000 0005 ffffffff 00010010 00000000 00000000 00000000",
		"0000 0005 00000001 00020010 00000000 00000000 00000000",
		"0000 0005 00000001 00010011 00000000 00000000 00000000",
		"0000 0005 00000001 00010010 00000000 00000000 00000001",
		"0000 0005 00000001 00010010 00000000 00000000 000000",
		"0000 0005 00000001 00010010 00000000 00000000 0000000000",
		"0000 0005 00000001",
		"",
	} {
		checkSized(t, "041d0000 00000000"+body)
	}
}

// R1: where several errors apply the one that is named first is told.
func TestDecodeOfSeveralErrors(t *testing.T) {
	checkRefused(t, api.ErrEnd, "03 63 0000 000000")
	checkRefused(t, api.ErrEnd, "04 63 ffff 000000")
	checkRefused(t, api.ErrBytes, "03 63 ffff 00000000")
	checkRefused(t, api.ErrBytes, "03 00 0007 00000000")
	checkRefused(t, api.ErrBytes, "04 63 0007 00000000")
	checkRefused(t, api.ErrEnd, "04 63 0009 00000000")
	checkRefused(t, api.ErrEnd, "04 0f 0011 00000000 0009 09 09 00000000")
	checkRefused(t, api.ErrBytes, "04 0f 0010 00000000 0009 09 09 00000000")
}

// R2: what is handed in stays, what stands behind the lists' lengths, too.
func TestGivenStays(t *testing.T) {
	backActions := list(output(1), pop, output(9), api.Action{}, pop, output(0))
	backTests := []api.Test{inner, from, {}, inner}
	for n := range len(backActions) + 1 {
		for k := range len(backTests) + 1 {
			apply, write, acts, tests := slices.Clone(backActions), slices.Clone(backActions), slices.Clone(backActions), slices.Clone(backTests)
			buckets := []api.Bucket{{Watch: 1, Actions: acts[:n]}, {Weight: 2}, {Watch: -1}, {Actions: acts}}
			Encode(flow(api.Entry{Tests: tests[:k], Apply: apply[:n], Write: write[:n]}))
			Encode(packetOf(acts[:n]...))
			Encode(Message{Kind: PacketOut, Actions: acts[:n], Entry: api.Entry{Tests: tests[:k], Apply: apply[:n]}, Group: group(buckets[:k]...)})
			Encode(groupOf(buckets[:k]...))
			if !slices.Equal(apply, backActions) || !slices.Equal(write, backActions) || !slices.Equal(acts, backActions) || !slices.Equal(tests, backTests) {
				t.Fatalf("%d, %d: %+v, %+v, %+v, %+v were handed in", n, k, apply, write, acts, tests)
			}
			if !same(groupOf(buckets...), groupOf(api.Bucket{Watch: 1, Actions: backActions[:n]}, api.Bucket{Weight: 2}, api.Bucket{Watch: -1}, api.Bucket{Actions: backActions})) {
				t.Fatalf("%d, %d: %+v were handed in", n, k, buckets)
			}
		}
	}
}

// lists are all lists of actions of a message.
func lists(m Message) [][]api.Action {
	l := [][]api.Action{m.Actions, m.Entry.Apply, m.Entry.Write}
	for _, b := range m.Group.Buckets {
		l = append(l, b.Actions)
	}
	return l
}

// R2: an answer's lists share no memory, neither with one another nor with earlier answers.
func TestAnswersAreNew(t *testing.T) {
	for _, w := range written {
		data := unhex(w.digits)
		earlier, _, _ := Decode(data)
		m, _, _ := Decode(data)
		for i, l := range lists(m) {
			full := l[:cap(l)]
			for j := range full {
				full[j] = api.Action{Kind: 100 + i, Field: j}
			}
		}
		for i, l := range lists(m) {
			for j, a := range l {
				if a != (api.Action{Kind: 100 + i, Field: j}) {
					t.Fatalf("%+v: lists share memory", m)
				}
			}
		}
		for i := range m.Entry.Tests {
			m.Entry.Tests[i] = api.Test{}
		}
		for i := range m.Group.Buckets {
			m.Group.Buckets[i] = api.Bucket{}
		}
		if !same(earlier, w.m) {
			t.Fatalf("%+v was answered earlier", earlier)
		}
		checkDecoded(t, data, w.m, len(data))
		if s, _ := Encode(earlier); s != data {
			t.Fatalf("%x, not %x", s, data)
		}
	}
}

// R2, R3: the same is answered again, whatever was asked in between, and what was answered earlier stays.
func TestOneState(t *testing.T) {
	r := rand.New(rand.NewSource(2))
	var earlier []Message
	for _, w := range written {
		m, _, _ := Decode(unhex(w.digits))
		earlier = append(earlier, m)
	}
	for range 500 {
		if s, e := Encode(anyMessage(r)); e == api.OK {
			Decode(s[:r.Intn(len(s)+1)])
		}
		for i, w := range written {
			s, _ := Encode(w.m)
			if s != unhex(w.digits) || !same(earlier[i], w.m) {
				t.Fatalf("%x, %+v, not %+v", s, earlier[i], w.m)
			}
			checkDecoded(t, s, w.m, len(s))
		}
	}
}

// anyBytes are nearly those of a message, or of several.
func anyBytes(r *rand.Rand) string {
	s, e := slowEncode(anyMessage(r))
	if e != api.OK || r.Intn(20) == 0 {
		s = unhex("04") + put(kinds[r.Intn(len(kinds))], 1) + put(r.Intn(40), 2) + anyText(r, r.Intn(40))
	}
	b := []byte(s)
	for range r.Intn(3) {
		b[r.Intn(len(b))] = []byte{0, 1, 2, 8, 16, 254, 255, byte(r.Intn(256))}[r.Intn(8)]
	}
	if r.Intn(4) == 0 {
		at := r.Intn(len(b) + 1)
		b = slices.Concat(b[:at], []byte(anyText(r, r.Intn(9))), b[at:])
		if len(b) > 3 && r.Intn(4) > 0 {
			copy(b[2:], put(len(b), 2))
		}
	}
	return string(b)
}

func TestDecodeModel(t *testing.T) { // P8.2, P8.3
	r := rand.New(rand.NewSource(3))
	for range 50000 {
		checkBytes(t, anyBytes(r))
	}
}

func FuzzDecode(f *testing.F) { // P8.2, P8.3
	for _, w := range written {
		f.Add(unhex(w.digits))
		f.Add(unhex(w.digits) + "more")
	}
	f.Fuzz(func(t *testing.T, data string) { checkBytes(t, data) })
}
