package act

import (
	"math"
	"math/rand"
	"slices"
	"strings"
	"testing"

	"drover/api"
)

func checkEncode(t *testing.T, l []api.Action, want string, e api.Errno) {
	t.Helper()
	if s, got := Encode(l...); s != want || got != e {
		t.Errorf("Encode of %+v: %x, %d, not %x, %d", l, s, int(got), want, int(e))
	}
}

func checkDecode(t *testing.T, data string, want []api.Action, e api.Errno) {
	t.Helper()
	if l, got := Decode(data); !slices.Equal(l, want) || got != e {
		t.Errorf("Decode of %x: %+v, %d, not %+v, %d", data, l, int(got), want, int(e))
	}
}

// checkBytes holds actions against their bytes, both ways.
func checkBytes(t *testing.T, digits string, l ...api.Action) {
	t.Helper()
	checkEncode(t, l, unhex(digits), api.OK)
	checkDecode(t, unhex(digits), l, api.OK)
}

func checkRefused(t *testing.T, want api.Errno, digits string) {
	t.Helper()
	checkDecode(t, unhex(digits), nil, want)
}

func TestBytes(t *testing.T) { // P6.1
	checkBytes(t, "")
	checkBytes(t, "0000 0010 00000001 ffff 000000000000", output(1))
	checkBytes(t, "0000 0010 01020304 ffff 000000000000", output(0x01020304))
	checkBytes(t, "0000 0010 ffffffff ffff 000000000000", output(4294967295))
	checkBytes(t, "0016 0008 00000001", toGroup(1))
	checkBytes(t, "0016 0008 01020304", toGroup(0x01020304))
	checkBytes(t, "0016 0008 ffffffff", toGroup(4294967295))
	checkBytes(t, "0011 0008 8100 0000", push)
	checkBytes(t, "0012 0008 0000 0000", pop)
	checkBytes(t, "0019 0010 8000 0c 02 1000 000000000000", set(api.Vlan, 4096))
	checkBytes(t, "0019 0010 8000 0c 02 1fff 000000000000", set(api.Vlan, 8191))
	checkBytes(t, "0019 0010 8000 16 04 00000000 00000000", set(api.Src, 0))
	checkBytes(t, "0019 0010 8000 16 04 0a000001 00000000", set(api.Src, 0x0a000001))
	checkBytes(t, "0019 0010 8000 18 04 0a000001 00000000", set(api.Dst, 0x0a000001))
	checkBytes(t, "0019 0010 8000 18 04 ffffffff 00000000", set(api.Dst, 4294967295))
	checkBytes(t, "0019 0010 8000 1a 02 0000 000000000000", set(api.Sport, 0))
	checkBytes(t, "0019 0010 8000 1a 02 1234 000000000000", set(api.Sport, 0x1234))
	checkBytes(t, "0019 0010 8000 1c 02 1234 000000000000", set(api.Dport, 0x1234))
	checkBytes(t, "0019 0010 8000 1c 02 ffff 000000000000", set(api.Dport, 65535))
	// One behind the other, in the order in which they are handed in.
	checkBytes(t, "0012 0008 00000000 0000 0010 00000002 ffff 000000000000 0012 0008 00000000 0016 0008 00000003"+
		"0019 0010 8000 1c 02 0050 000000000000 0011 0008 81000000", pop, output(2), pop, toGroup(3), set(api.Dport, 80), push)
}

// samples are one right action of each Kind and Field, and more.
func samples() []api.Action {
	return list(output(1), output(0x00100008), output(4294967295), toGroup(1), toGroup(0x00120008), push, pop,
		set(api.Vlan, 4096), set(api.Vlan, 8191), set(api.Src, 0), set(api.Src, 0x00160008), set(api.Dst, 4294967295),
		set(api.Sport, 0), set(api.Sport, 65535), set(api.Dport, 8), set(api.Dport, 65535))
}

// P6.1, P6.4: up to 32 of each, and more.
func TestHowMany(t *testing.T) {
	for _, a := range samples() {
		one := unhex(slowBytes(a))
		for _, n := range []int{0, 1, 2, 31, 32} {
			checkBytes(t, strings.Repeat(slowBytes(a), n), slices.Repeat(list(a), n)...)
		}
		for _, n := range []int{33, 34, 64, 65, 256, 288} {
			checkEncode(t, slices.Repeat(list(a), n), "", api.ErrBig)
			checkDecode(t, strings.Repeat(one, n), nil, api.ErrBig)
		}
	}
	checkDecode(t, strings.Repeat(unhex(slowBytes(pop)), 1<<17), nil, api.ErrBig)
}

// P6.1: one that is not right, wherever it stands, is told ahead of that there are too many.
func TestEncodeOfWrongActions(t *testing.T) {
	for _, bad := range list(api.Action{}, output(0), output(1<<32), toGroup(0), toGroup(math.MaxUint64), set(0, 0), set(api.Meta, 1),
		set(api.Vlan, 4095), set(api.Sport, 65536), api.Action{Kind: api.Push, Value: 1}, api.Action{Kind: api.Pop, Field: 3}, api.Action{Kind: 6}) {
		for _, n := range []int{1, 2, 3, 31, 32, 33, 34, 100} {
			for i := range n {
				l := slices.Repeat(list(push), n)
				l[i] = bad
				checkEncode(t, l, "", api.ErrAct)
			}
		}
		checkEncode(t, slices.Repeat(list(bad), 40), "", api.ErrAct)
	}
}

// P6.1: every beginning, alone and behind others, up to as many as may be.
func TestDecodeOfBeginnings(t *testing.T) {
	for _, a := range samples() {
		s := unhex(slowBytes(a))
		for _, ahead := range []int{0, 1, 31, 32, 33, 40} {
			for n := 1; n < len(s); n++ {
				checkDecode(t, strings.Repeat(s, ahead)+s[:n], nil, api.ErrEnd)
			}
		}
	}
	all, _ := slowEncode(samples())
	for n := range len(all) {
		l, e := slowDecode(all[:n])
		if e != api.OK && e != api.ErrEnd {
			t.Fatalf("%d: %d", n, int(e))
		}
		checkDecode(t, all[:n], l, e)
	}
}

// P6.1: ErrEnd of what says more than there is; ErrBytes of what says fewer than 8.
func TestDecodeOfLength(t *testing.T) {
	for _, c := range []struct {
		digits string
		want   api.Errno
	}{
		{"00", api.ErrEnd},
		{"0012", api.ErrEnd},
		{"001200", api.ErrEnd},
		{"ffffff", api.ErrEnd},
		{"00120000", api.ErrBytes},
		{"00120001", api.ErrBytes},
		{"00120004", api.ErrBytes},
		{"00120005", api.ErrEnd},
		{"00120007 0000", api.ErrEnd},
		{"00120007 000000", api.ErrBytes},
		{"00120007 00000000", api.ErrBytes},
		{"00120008 000000", api.ErrEnd},
		{"00120009 00000000", api.ErrEnd},
		{"00120009 00000000 00", api.ErrBytes},
		{"00120010 00000000 00000000", api.ErrEnd},
		{"00120010 00000000 00000000 00000000", api.ErrBytes},
		{"0012ffff 00000000", api.ErrEnd},
		{"00000008 00000001", api.ErrBytes},
		{"00000018 00000001 ffff 000000000000 0000000000000000", api.ErrBytes},
		{"0016 0010 00000001 00000000 00000000", api.ErrBytes},
		{"0011 0010 81000000 00000000 00000000", api.ErrBytes},
		{"0019 0008 8000 0c02", api.ErrBytes},
		{"0019 000a 8000 0c02 1001", api.ErrBytes},
		{"0019 0018 8000 0c02 1001 000000000000 0000000000000000", api.ErrBytes},
	} {
		checkRefused(t, c.want, c.digits)
	}
	for _, a := range samples() {
		s := unhex(slowBytes(a))
		for _, more := range []int{0, 1, 8, 100, 65536} {
			long := s + strings.Repeat("\x00", more)
			for n := range 65536 {
				if n > 300 && n < 65300 || n == len(s) {
					continue
				}
				want := api.ErrBytes
				if n > len(long) {
					want = api.ErrEnd
				}
				checkDecode(t, s[:2]+string([]byte{byte(n >> 8), byte(n)})+long[4:], nil, want)
			}
		}
	}
}

// P6.1: each byte turned into each other one; some of these are another action's.
func TestDecodeOfTurnedBytes(t *testing.T) {
	for _, a := range samples() {
		s := unhex(slowBytes(a))
		for i := range len(s) {
			for b := range 256 {
				turned := s[:i] + string([]byte{byte(b)}) + s[i+1:]
				for _, data := range []string{turned, s + turned, turned + s, turned + strings.Repeat("\x00", 256)} {
					l, e := slowDecode(data)
					checkDecode(t, data, l, e)
				}
			}
		}
	}
}

// P6.1: bytes of nothing that is right, or that are written otherwise.
func TestDecodeOfWrongActions(t *testing.T) {
	for _, digits := range []string{
		"0000 0010 00000000 ffff 000000000000", // no port
		"0000 0010 00000001 0000 000000000000",
		"0000 0010 00000001 fffe 000000000000",
		"0000 0010 00000001 ffff 000000000001",
		"0000 0010 00000001 ffff 010000000000",
		"0016 0008 00000000", // no group
		"0011 0008 8100 0001",
		"0011 0008 8100 0100",
		"0011 0008 88a8 0000",
		"0011 0008 0000 0000",
		"0012 0008 00000001",
		"0012 0008 01000000",
		"0012 0008 81000000",
		"0001 0008 00000000", // no Kinds
		"0010 0008 00000000",
		"0013 0008 00000000",
		"0015 0008 00000001",
		"0017 0008 00000000",
		"0018 0008 00000000",
		"0100 0010 00000001 ffff 000000000000",
		"0112 0008 00000000",
		"1200 0008 00000000",
		"ffff 0008 00000000",
		"0019 0010 0000 0c 02 1001 000000000000", // another class
		"0019 0010 8001 0c 02 1001 000000000000",
		"0019 0010 8000 0d 02 1001 000000000000", // with a mask
		"0019 0010 8000 0d 04 1001 1fff 00000000",
		"0019 0010 8000 0c 02 0000 000000000000", // no tag
		"0019 0010 8000 0c 02 0fff 000000000000",
		"0019 0010 8000 0c 02 2000 000000000000",
		"0019 0010 8000 0c 02 ffff 000000000000",
		"0019 0010 8000 0c 04 1001 000000000000", // another size
		"0019 0010 8000 0c 04 00001001 00000000",
		"0019 0010 8000 0c 00 1001 000000000000",
		"0019 0010 8000 16 02 0a00 000000000000",
		"0019 0010 8000 16 08 0a000001 00000000",
		"0019 0010 8000 1a 04 00000050 00000000",
		"0019 0010 8000 0c 02 1001 000000000001", // more behind it
		"0019 0010 8000 0c 02 1001 010000000000",
		"0019 0010 8000 16 04 0a000001 01000000",
		"0019 0010 8000 18 04 0a000001 00000001",
		"0019 0010 8000 1c 02 0050 ff0000000000",
	} {
		checkRefused(t, api.ErrBytes, digits)
	}
}

// P6.1: each code and each number of bytes of a Set.
func TestDecodeOfCodes(t *testing.T) {
	known := map[int]int{2 * 6: api.Vlan, 2 * 11: api.Src, 2 * 12: api.Dst, 2 * 13: api.Sport, 2 * 14: api.Dport}
	sizes := map[int]int{api.Vlan: 2, api.Src: 4, api.Dst: 4, api.Sport: 2, api.Dport: 2}
	for head := range 256 {
		for size := range 256 {
			data := "\x00\x19\x00\x10\x80\x00" + string([]byte{byte(head), byte(size)}) + "\x10\x02\x00\x00\x00\x00\x00\x00"
			f, there := known[head]
			switch {
			case !there || size != sizes[f]:
				checkDecode(t, data, nil, api.ErrBytes)
			case size == 4:
				checkDecode(t, data, list(set(f, 0x10020000)), api.OK)
			default:
				checkDecode(t, data, list(set(f, 0x1002)), api.OK)
			}
		}
	}
}

// P6.1: each number of a Kind, with the bytes of each Kind behind it.
func TestDecodeOfKinds(t *testing.T) {
	for _, a := range samples() {
		s := unhex(slowBytes(a))
		for n := range 65536 {
			data := string([]byte{byte(n >> 8), byte(n)}) + s[2:]
			want, e := list(a), api.OK
			if data != s {
				want, e = nil, api.ErrBytes
			}
			// Behind another Kind's number some are that Kind's: a Push's bytes behind a group's number.
			if n < 32 {
				want, e = slowDecode(data)
			}
			checkDecode(t, data, want, e)
		}
	}
}

// P6.1: what is wrong first is told; that there are too many is told last.
func TestDecodeOfSeveralErrors(t *testing.T) {
	good, bad := unhex(slowBytes(pop)), unhex("0012 0008 00000001")
	short, small := good[:5], unhex("0012 0004")
	many := strings.Repeat(good, 33)
	for _, c := range []struct {
		data string
		want api.Errno
	}{
		{bad + short, api.ErrBytes},
		{bad + "\x00", api.ErrBytes},
		{good + bad + short, api.ErrBytes},
		{small + short, api.ErrBytes},
		{small + bad, api.ErrBytes},
		// What says more than there is takes all that follows.
		{unhex("0012 0020 00000001") + bad, api.ErrEnd},
		{unhex("ffff ffff 00000001") + bad + bad, api.ErrEnd},
		{unhex("ffff 0007 0000"), api.ErrEnd},
		{unhex("ffff 0005"), api.ErrEnd},
		{unhex("ffff 0004"), api.ErrBytes},
		{unhex("ffff 0000"), api.ErrBytes},
		{many, api.ErrBig},
		{many + bad, api.ErrBytes},
		{many + short, api.ErrEnd},
		{many + "\x00", api.ErrEnd},
		{many + small, api.ErrBytes},
		{many + many + bad + short, api.ErrBytes},
		{many[8:] + bad, api.ErrBytes},
		{many[8:] + short, api.ErrEnd},
		{many[8:] + small, api.ErrBytes},
		{bad + many, api.ErrBytes},
		{bad + many + short, api.ErrBytes},
	} {
		checkDecode(t, c.data, nil, c.want)
	}
}

// anyRight is up to most actions, all of them right.
func anyRight(r *rand.Rand, most int) []api.Action {
	var l []api.Action
	for n := r.Intn(most + 1); len(l) < n; {
		if a := anyAction(r); slowRight(a) {
			l = append(l, a)
		}
	}
	return l
}

func TestEncodeModel(t *testing.T) { // P6.1
	r := rand.New(rand.NewSource(13))
	for range 20000 {
		l := anyRight(r, 36)
		if len(l) > 0 && r.Intn(3) == 0 {
			l[r.Intn(len(l))] = anyAction(r)
		}
		want, e := slowEncode(l)
		checkEncode(t, l, want, e)
	}
}

// P6.1: any bytes, most of them nearly some actions'.
func TestDecodeModel(t *testing.T) {
	r := rand.New(rand.NewSource(14))
	for range 30000 {
		data := ""
		for _, a := range anyRight(r, 4+r.Intn(2)*32) {
			data += unhex(slowBytes(a))
		}
		b := []byte(data)
		for range min(len(b), r.Intn(3)) {
			b[r.Intn(len(b))] = [...]byte{0, 1, 4, 8, 16, 0x12, 0x80, byte(r.Intn(256))}[r.Intn(8)]
		}
		if len(b) > 0 && r.Intn(6) == 0 {
			b = b[:r.Intn(len(b))]
		}
		if len(b) > 0 && r.Intn(6) == 0 {
			i := r.Intn(len(b))
			b = slices.Delete(b, i, min(len(b), i+1+r.Intn(8)))
		}
		l, e := slowDecode(string(b))
		checkDecode(t, string(b), l, e)
	}
}

// P6.4: what is encoded is decoded, and T1: what is decoded is what was encoded.
func TestDecodeOfEncode(t *testing.T) {
	r := rand.New(rand.NewSource(15))
	for range 20000 {
		l := anyRight(r, 32)
		s, e := Encode(l...)
		if e != api.OK || len(s)%8 != 0 {
			t.Fatalf("%+v: %x, %d", l, s, int(e))
		}
		checkDecode(t, s, l, api.OK)
	}
}

func FuzzDecode(f *testing.F) { // P6.1, P6.4
	for _, a := range samples() {
		f.Add(unhex(slowBytes(a)))
	}
	all, _ := slowEncode(samples())
	f.Add(all)
	f.Add(all + all + all)
	f.Fuzz(func(t *testing.T, data string) {
		l, e := slowDecode(data)
		checkDecode(t, data, l, e)
		if e == api.OK {
			checkEncode(t, l, data, api.OK)
		}
	})
}

// R2: Encode leaves what is handed in, and what Decode answers is the caller's.
func TestBytesAreNew(t *testing.T) {
	given := samples()
	s, e := Encode(given[:5]...)
	if e != api.OK || !slices.Equal(given, samples()) {
		t.Fatalf("%+v, %d", given, int(e))
	}
	first, _ := Decode(s)
	second, _ := Decode(s)
	for i := range first[:cap(first)] {
		first[:cap(first)][i] = output(77)
	}
	if !slices.Equal(second, samples()[:5]) {
		t.Error(second)
	}
	checkDecode(t, s, samples()[:5], api.OK)
}
