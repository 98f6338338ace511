package match

import (
	"math"
	"math/rand"
	"slices"
	"strings"
	"testing"

	"drover/api"
)

// checkBytes holds a match against its bytes, both ways.
func checkBytes(t *testing.T, digits string, tests ...api.Test) {
	t.Helper()
	want := unhex(digits)
	if s, e := Encode(tests...); s != want || e != api.OK {
		t.Errorf("Encode of %x: %x, %d, not %x", tests, s, int(e), want)
	}
	checkDecode(t, want, tests, len(want), api.OK)
}

func checkDecode(t *testing.T, data string, tests []api.Test, n int, want api.Errno) {
	t.Helper()
	l, got, e := Decode(data)
	if !slices.Equal(l, tests) || got != n || e != want {
		t.Errorf("Decode of %x: %x, %d, %d, not %x, %d, %d", data, l, got, int(e), tests, n, int(want))
	}
}

func checkRefused(t *testing.T, want api.Errno, digits string) {
	t.Helper()
	checkDecode(t, unhex(digits), nil, 0, want)
}

func TestBytes(t *testing.T) { // P5.3
	checkBytes(t, "0001 0004 00000000")
	checkBytes(t, "0001 000c 8000 00 04 00000003 00000000", is(api.InPort, 3))
	checkBytes(t, "0001 0010 8000 04 08 0123456789abcdef", is(api.Meta, 0x0123456789abcdef))
	checkBytes(t, "0001 000a 8000 0c 02 1003 000000000000", is(api.Vlan, 0x1003))
	checkBytes(t, "0001 000a 8000 0a 02 86dd 000000000000", is(api.EthType, 0x86dd))
	checkBytes(t, "0001 0012 8000 0a 02 0800 8000 16 04 0a000001 000000000000", inner, is(api.Src, 0x0a000001))
	checkBytes(t, "0001 0012 8000 0a 02 0800 8000 18 04 0a000001 000000000000", inner, is(api.Dst, 0x0a000001))
	checkBytes(t, "0001 000f 8000 0a 02 0800 8000 14 01 ff 00", inner, is(api.Proto, 255))
	checkBytes(t, "0001 0015 8000 0a 02 0800 8000 14 01 06 8000 1a 02 1234 000000", inner, isTCP, is(api.Sport, 0x1234))
	checkBytes(t, "0001 0015 8000 0a 02 0800 8000 14 01 06 8000 1c 02 1234 000000", inner, isTCP, is(api.Dport, 0x1234))
	checkBytes(t, "0001 0015 8000 0a 02 0800 8000 14 01 11 8000 1e 02 1234 000000", inner, isUDP, is(api.Sport, 0x1234))
	checkBytes(t, "0001 0015 8000 0a 02 0800 8000 14 01 11 8000 20 02 1234 000000", inner, isUDP, is(api.Dport, 0x1234))
}

// P5.3: with a mask, which stands behind the value.
func TestBytesOfMasks(t *testing.T) {
	checkBytes(t, "0001 0010 8000 01 08 00000003 0000000f", under(api.InPort, 3, 15))
	checkBytes(t, "0001 0018 8000 05 10 0000000000000003 000000000000000f", under(api.Meta, 3, 15))
	checkBytes(t, "0001 0018 8000 05 10 0000000000000000 fffffffffffffffe", under(api.Meta, 0, math.MaxUint64-1))
	checkBytes(t, "0001 000c 8000 0d 04 1000 1000 00000000", under(api.Vlan, 0x1000, 0x1000))
	checkBytes(t, "0001 000c 8000 0b 04 0800 ff00 00000000", under(api.EthType, 0x800, 0xff00))
	checkBytes(t, "0001 0016 8000 0a 02 0800 8000 17 08 0a000000 ff000000 0000", inner, ten)
	checkBytes(t, "0001 0016 8000 0a 02 0800 8000 19 08 0a000000 ff000000 0000", inner, under(api.Dst, 0x0a000000, 0xff000000))
	checkBytes(t, "0001 0010 8000 0a 02 0800 8000 15 02 06 0e", inner, under(api.Proto, 6, 0x0e))
	checkBytes(t, "0001 0017 8000 0a 02 0800 8000 14 01 06 8000 1b 04 0010 00f0 00", inner, isTCP, under(api.Sport, 0x10, 0xf0))
	checkBytes(t, "0001 0017 8000 0a 02 0800 8000 14 01 06 8000 1d 04 0010 00f0 00", inner, isTCP, under(api.Dport, 0x10, 0xf0))
	checkBytes(t, "0001 0017 8000 0a 02 0800 8000 14 01 11 8000 1f 04 0010 00f0 00", inner, isUDP, under(api.Sport, 0x10, 0xf0))
	checkBytes(t, "0001 0017 8000 0a 02 0800 8000 14 01 11 8000 21 04 0010 00f0 00", inner, isUDP, under(api.Dport, 0x10, 0xf0))
}

// P5.3: all fields at once, the greatest match among them.
func TestBytesOfAllFields(t *testing.T) {
	checkBytes(t, "0001 0045 8000 00 04 00000001 8000 04 08 0000000000000002 8000 0c 02 1003 8000 0a 02 0800"+
		"8000 16 04 00000005 8000 18 04 00000006 8000 14 01 11 8000 1e 02 0008 8000 20 02 0009 000000",
		is(1, 1), is(2, 2), is(3, 0x1003), inner, is(5, 5), is(6, 6), isUDP, is(8, 8), is(9, 9))
	checkBytes(t, "0001 005f 8000 01 08 00000001 00000001 8000 05 10 0000000000000002 0000000000000002 8000 0d 04 0001 0001 8000 0a 02 0800"+
		"8000 17 08 00000004 00000004 8000 19 08 00000002 00000002 8000 14 01 06 8000 1b 04 0008 0008 8000 1d 04 0001 0001 00",
		under(1, 1, 1), under(2, 2, 2), under(3, 1, 1), inner, under(5, 4, 4), under(6, 2, 2), isTCP, under(8, 8, 8), under(9, 1, 1))
}

// samples are bytes of each kind of match.
func samples() []string {
	var all []string
	for _, l := range [][]api.Test{
		nil, {is(1, 3)}, {under(1, 3, 7)}, {is(2, math.MaxUint64)}, {under(2, 1, 1)}, {is(3, 0)}, {is(3, 8191)}, {under(3, 1, 3)},
		{inner}, {is(4, 0x806)}, {under(4, 0x800, 0xff00)}, {inner, is(5, 1)}, {inner, ten}, {inner, is(6, 1)}, {inner, under(6, 1, 1)},
		{inner, isTCP}, {inner, isUDP}, {inner, is(7, 1)}, {inner, under(7, 6, 6)},
		{inner, isTCP, is(8, 1)}, {inner, isUDP, is(8, 1)}, {inner, isTCP, is(9, 1)}, {inner, isUDP, is(9, 1)},
		{inner, isTCP, under(8, 1, 1)}, {inner, isUDP, under(9, 0, 1)}, {inner, isUDP, is(8, 5), is(9, 6)},
		{is(1, 1), is(2, 2), is(3, 3), inner, is(5, 5), is(6, 6), isTCP, is(8, 8), is(9, 9)},
	} {
		s, _ := slowEncode(l)
		all = append(all, s)
	}
	return all
}

func TestDecodeOfBeginnings(t *testing.T) { // P5.3
	for _, s := range samples() {
		for n := range len(s) {
			checkDecode(t, s[:n], nil, 0, api.ErrEnd)
		}
	}
}

// P5.3, P5.4: whatever is behind it.
func TestDecodeOfMore(t *testing.T) {
	for _, s := range samples() {
		want, _, _ := slowDecode(s)
		for _, more := range []string{"", "\x00", "rest", "\xff\xff\xff\xff\xff\xff\xff\xff", strings.Repeat("\x00", 8), "\x80\x00\x00\x04\x00\x00\x00\x03", s, strings.Repeat("\x80", 1<<17)} {
			checkDecode(t, s+more, want, len(s), api.OK)
		}
	}
}

// P5.3: ErrEnd is named ahead of ErrBytes, which lengths below 4 are.
func TestDecodeOfLength(t *testing.T) {
	for _, c := range []struct {
		digits string
		want   api.Errno
	}{
		{"", api.ErrEnd},
		{"00", api.ErrEnd},
		{"0001", api.ErrEnd},
		{"000100", api.ErrEnd},
		{"ffffff", api.ErrEnd},
		{"00010000", api.ErrBytes},
		{"00000000", api.ErrBytes},
		{"0001000000000000", api.ErrBytes},
		{"00010001", api.ErrEnd},
		{"00010001000000", api.ErrEnd},
		{"0001000100000000", api.ErrBytes},
		{"0001000200000000", api.ErrBytes},
		{"00010003", api.ErrEnd},
		{"0001000300000000", api.ErrBytes},
		{"00010004", api.ErrEnd},
		{"00010004000000", api.ErrEnd},
		{"ffff0004000000", api.ErrEnd},
		{"0001ffff00000000", api.ErrEnd},
		{"000100090000000000", api.ErrEnd},
		{"00010010800004080123456789abcd", api.ErrEnd},
		{"0001001180000408 0123456789abcdef", api.ErrEnd},
		{"00010400 00000000", api.ErrEnd},
	} {
		checkRefused(t, c.want, c.digits)
	}
	// The greatest length, all of it there or a byte too few.
	checkDecode(t, "\x00\x01\xff\xff"+strings.Repeat("\x80", 65535-4), nil, 0, api.ErrEnd)
	checkDecode(t, "\x00\x01\xff\xff"+strings.Repeat("\x80", 65536-4), nil, 0, api.ErrBytes)
	checkDecode(t, "\x00\x01\xff\xff"+strings.Repeat("\x00", 65536-4), nil, 0, api.ErrBytes)
	proto := strings.Repeat("\x80\x00\x14\x01\x06", 13106)
	checkDecode(t, "\x00\x01\xff\xfe"+proto+"\x00\x00", nil, 0, api.ErrBytes)
}

// P5.3: a length that is not the tests'.
func TestDecodeOfOtherLength(t *testing.T) {
	for _, s := range samples() {
		said := int(s[2])<<8 + int(s[3])
		long := s + strings.Repeat("\x00", 64)
		for n := range 160 {
			want := api.ErrBytes
			switch {
			case n == said:
				continue
			case (n+7)/8*8 > len(long):
				want = api.ErrEnd
			}
			data := s[:2] + string([]byte{byte(n >> 8), byte(n)}) + long[4:]
			// Some lengths cut behind a test, and leave nothing but 00: only then is it a match.
			if l, m, e := slowDecode(data); e == api.OK {
				checkDecode(t, data, l, m, e)
				continue
			}
			checkDecode(t, data, nil, 0, want)
		}
	}
	checkRefused(t, api.ErrBytes, "0001 0005 00000000")
	checkRefused(t, api.ErrBytes, "0001 0008 00000000")
	checkRefused(t, api.ErrBytes, "0001 000b 8000 00 04 00000003 00000000")
	checkRefused(t, api.ErrBytes, "0001 000d 8000 00 04 00000003 00000000")
	checkRefused(t, api.ErrBytes, "0001 0010 8000 00 04 00000003 00000000")
	checkRefused(t, api.ErrBytes, "0001 0004 8000 00 04 00000003 00000000")
	checkDecode(t, unhex("0001 0004 00000000 8000 00 04 00000003 00000000"), nil, 8, api.OK)
}

// P5.3: bytes behind the tests that are not 00.
func TestDecodeOfPadding(t *testing.T) {
	for _, s := range samples() {
		said := int(s[2])<<8 + int(s[3])
		for i := said; i < len(s); i++ {
			for _, b := range []byte{1, 0x10, 0x80, 0xff} {
				checkDecode(t, s[:i]+string([]byte{b})+s[i+1:], nil, 0, api.ErrBytes)
			}
		}
	}
}

// P5.3: each byte turned into each other one; some of these are another match's.
func TestDecodeOfTurnedBytes(t *testing.T) {
	for _, s := range samples() {
		for i := range len(s) {
			for b := range 256 {
				data := s[:i] + string([]byte{byte(b)}) + s[i+1:]
				l, n, e := slowDecode(data)
				checkDecode(t, data, l, n, e)
				long := data + strings.Repeat("\x00", 256)
				l, n, e = slowDecode(long)
				checkDecode(t, long, l, n, e)
			}
		}
	}
}

// P5.3: each code, whole and not, with each number of bytes.
func TestDecodeOfCodes(t *testing.T) {
	for _, ahead := range []string{"", "8000 0a 02 0800", "8000 0a 02 0800 8000 14 01 06", "8000 0a 02 0800 8000 14 01 11", "8000 0a 02 0800 8000 14 01 01"} {
		for head := range 256 {
			for size := range 20 {
				for _, fill := range []string{"\x00", "\x01"} {
					body := unhex(ahead) + "\x80\x00" + string([]byte{byte(head), byte(size)}) + strings.Repeat(fill, size)
					data := "\x00\x01\x00" + string([]byte{byte(4 + len(body))}) + body
					data += strings.Repeat("\x00", (len(data)+7)/8*8-len(data))
					l, n, e := slowDecode(data)
					checkDecode(t, data, l, n, e)
				}
			}
		}
	}
	checkRefused(t, api.ErrBytes, "0001 000c 8000 02 04 00000003 00000000") // code 1 is no field's
	checkRefused(t, api.ErrBytes, "0001 000c 8000 80 04 00000003 00000000")
	checkRefused(t, api.ErrBytes, "0001 000c 8000 22 04 00000003 00000000")
}

// P5.3: bytes of tests that are not right, or that are written otherwise.
func TestDecodeOfWrongTests(t *testing.T) {
	for _, digits := range []string{
		"0000 0004 00000000",
		"0002 0004 00000000",
		"0101 0004 00000000",
		"0001 000c 8001 00 04 00000003 00000000",
		"0001 000c 0000 00 04 00000003 00000000",
		"0001 000c 8000 00 03 00000003 00000000",
		"0001 000c 8000 00 05 00000003 00000000",
		"0001 000c 8000 00 00 00000003 00000000",
		"0001 0008 8000 00 04",
		"0001 0008 8000 00 00",
		"0001 0008 8000 22 00",
		"0001 0010 8000 01 08 00000003 ffffffff", // whole, with its mask
		"0001 000c 8000 0d 04 0003 1fff 00000000",
		"0001 0010 8000 01 08 00000003 00000000", // no mask
		"0001 0010 8000 01 08 00000000 00000000",
		"0001 0010 8000 01 08 00000003 00000001", // a value beside it
		"0001 000a 8000 0c 02 2000 000000000000", // more bits than a Vlan's
		"0001 000a 8000 0c 02 ffff 000000000000",
		"0001 000c 8000 0d 04 0000 2000 00000000",
		"0001 000c 8000 0d 04 0000 3fff 00000000",
		"0001 000c 8000 16 04 0a000001 00000000", // Src without EthType
		"0001 0012 8000 0a 02 0806 8000 16 04 0a000001 000000000000",
		"0001 0014 8000 0b 04 0800 ff00 8000 16 04 0a000001 00000000",
		"0001 0012 8000 16 04 0a000001 8000 0a 02 0800 000000000000", // out of order
		"0001 0014 8000 00 04 00000001 8000 00 04 00000001 00000000", // twice
		"0001 0010 8000 0a 02 0800 8000 1a 02 1234",                  // ports without Proto
		"0001 0015 8000 0a 02 0800 8000 14 01 06 8000 1e 02 1234 000000",
		"0001 0015 8000 0a 02 0800 8000 14 01 06 8000 20 02 1234 000000",
		"0001 0015 8000 0a 02 0800 8000 14 01 11 8000 1a 02 1234 000000",
		"0001 0015 8000 0a 02 0800 8000 14 01 11 8000 1c 02 1234 000000",
		"0001 0015 8000 0a 02 0800 8000 14 01 01 8000 1a 02 1234 000000",
		"0001 0016 8000 0a 02 0800 8000 15 02 06 0e 8000 1a 02 1234 0000",
	} {
		checkRefused(t, api.ErrBytes, digits)
	}
}

// P5.3: any bytes, most of them nearly a match's.
func TestDecodeOfAnyBytes(t *testing.T) {
	r := rand.New(rand.NewSource(5))
	for range 30000 {
		s, _ := slowEncode(anyRight(r))
		b := []byte(s)
		for range r.Intn(4) {
			b[r.Intn(len(b))] = [...]byte{0, 1, 4, 6, 8, 17, 0x80, byte(r.Intn(256))}[r.Intn(8)]
		}
		switch r.Intn(8) {
		case 0:
			b = b[:r.Intn(len(b))]
		case 1:
			i := r.Intn(len(b))
			b = slices.Delete(b, i, min(len(b), i+1+r.Intn(8)))
		case 2:
			r.Read(b[min(4, len(b)):])
		}
		l, n, e := slowDecode(string(b))
		checkDecode(t, string(b), l, n, e)
	}
}

// P5.4: what is encoded is decoded, whatever is behind it; and what is decoded is what was encoded.
func TestDecodeOfEncode(t *testing.T) {
	r := rand.New(rand.NewSource(6))
	for range 20000 {
		tests := anyRight(r)
		s, e := Encode(tests...)
		if e != api.OK || len(s)%8 != 0 {
			t.Fatalf("%x: %x, %d", tests, s, int(e))
		}
		more := make([]byte, r.Intn(20))
		r.Read(more)
		checkDecode(t, s+string(more), tests, len(s), api.OK)
	}
}

func FuzzDecode(f *testing.F) { // P5.3
	for _, s := range samples() {
		f.Add(s)
	}
	f.Fuzz(func(t *testing.T, data string) {
		l, n, e := slowDecode(data)
		checkDecode(t, data, l, n, e)
		if e != api.OK {
			return
		}
		if s, _ := Encode(l...); s != data[:n] {
			t.Errorf("%x is not %x", s, data[:n])
		}
	})
}
