package frame

import (
	"encoding/hex"
	"fmt"
	"math"
	"math/rand"
	"strings"
	"testing"

	"drover/api"
)

// bytesOf is of a text in hexadecimal, in which blanks don't count.
func bytesOf(t *testing.T, text string) string {
	t.Helper()
	b, err := hex.DecodeString(strings.ReplaceAll(text, " ", ""))
	if err != nil {
		t.Fatal(err)
	}
	return string(b)
}

const (
	to   = 0x0a0b0c0d0e0f
	from = 0x102030405060
)

func plain() api.Packet { return api.Packet{To: to, From: from, Type: 0x88b5, Data: "hello"} }

func inner(proto int) api.Packet {
	p := api.Packet{To: to, From: from, Type: 0x800, Src: 0xc0a80001, Dst: 0xc0a800c7, Life: 64, Proto: proto, Data: "hello"}
	if proto == 6 || proto == 17 {
		p.Sport, p.Dport = 0x1234, 0xfedc
	}
	return p
}

func tagged(p api.Packet, number int) api.Packet {
	p.Vlan = 4096 + number
	return p
}

// kinds are one packet of each kind.
func kinds() []api.Packet {
	all := []api.Packet{plain(), inner(17), inner(6), inner(1), inner(0), inner(255)}
	for _, p := range all {
		all = append(all, tagged(p, 0x123))
	}
	return all
}

// show is a packet in a message; of its Data only the beginning.
func show(p api.Packet) string {
	p.Data = p.Data[:min(len(p.Data), 32)]
	return fmt.Sprintf("%#v", p)
}

func checkBytes(t *testing.T, p api.Packet, want string) {
	t.Helper()
	if s, e := Bytes(p); s != want || e != api.OK {
		t.Errorf("Bytes of %s:\n% x, %d, not\n% x", show(p), s[:min(len(s), 80)], int(e), want[:min(len(want), 80)])
	}
}

func checkNoBytes(t *testing.T, p api.Packet, want api.Errno) {
	t.Helper()
	if s, e := Bytes(p); s != "" || e != want {
		t.Errorf("Bytes of %s: %d bytes, %d, not %d", show(p), len(s), int(e), int(want))
	}
}

func checkParse(t *testing.T, s string, want api.Packet, wantError api.Errno) {
	t.Helper()
	if p, e := Parse(s); p != want || e != wantError {
		t.Errorf("Parse of %d bytes % x:\n%s, %d, not\n%s, %d", len(s), s[:min(len(s), 80)], show(p), int(e), show(want), int(wantError))
	}
}

func checkRefused(t *testing.T, s string, want api.Errno) {
	t.Helper()
	checkParse(t, s, api.Packet{}, want)
}

// checkBoth is P3.1 and P3.2 of one packet.
func checkBoth(t *testing.T, p api.Packet, s string) {
	t.Helper()
	checkBytes(t, p, s)
	checkParse(t, s, p, api.OK)
}

func frameOf(t *testing.T, p api.Packet) string {
	t.Helper()
	s, e := Bytes(p)
	if e != api.OK {
		t.Fatalf("%s: %d", show(p), int(e))
	}
	return s
}

func TestFramesWrittenOut(t *testing.T) { // P3.1, P3.2
	const addresses = "0a0b0c0d0e0f 102030405060"
	for _, c := range []struct {
		p    api.Packet
		want string
	}{
		{api.Packet{Type: 0x88b5, Data: "hi"}, "000000000000 000000000000 88b5 6869"}, // the chapter's example
		{plain(), addresses + "88b5 68656c6c6f"},
		{tagged(plain(), 0x123), addresses + "8100 0123 88b5 68656c6c6f"},
		{inner(1), addresses + "0800 4500 0019 00000000 4001 f8cb c0a80001 c0a800c7 68656c6c6f"},
		{inner(17), addresses + "0800 4500 0021 00000000 4011 f8b3 c0a80001 c0a800c7 1234 fedc 000d 28d8 68656c6c6f"},
		{inner(6), addresses + "0800 4500 002d 00000000 4006 f8b2 c0a80001 c0a800c7 1234 fedc 00000000 00000000 5010 ffff d8d3 0000 68656c6c6f"},
		{tagged(inner(17), 4095), addresses + "8100 0fff 0800 4500 0021 00000000 4011 f8b3 c0a80001 c0a800c7 1234 fedc 000d 28d8 68656c6c6f"},
	} {
		checkBoth(t, c.p, bytesOf(t, c.want))
	}
}

func TestNoBytes(t *testing.T) { // P3.2
	checkRefused(t, "", api.ErrBytes)
}

func TestKinds(t *testing.T) { // P3.1, P3.2, P3.3
	for _, p := range kinds() {
		for _, data := range []string{"", "\x00", "\xff", "hi", "\x00\x00\x00", "\xff\xff\xff\xff", strings.Repeat("abc\x80", 200)} {
			p.Data = data
			checkBoth(t, p, slowBytes(p))
		}
	}
}

// P3.1, 'A packet is right': the bounds themselves are in it.
func TestRightAtItsBounds(t *testing.T) {
	for i, change := range []func(p *api.Packet){
		func(p *api.Packet) { p.To, p.From = 1<<48-1, 1<<48-1 },
		func(p *api.Packet) { p.To, p.From = 0, 0 },
		func(p *api.Packet) { p.Vlan = 4096 },
		func(p *api.Packet) { p.Vlan = 8191 },
		func(p *api.Packet) { p.Data = "" },
	} {
		for _, p := range kinds() {
			change(&p)
			if s, e := Bytes(p); e != api.OK {
				t.Errorf("%d: %s: %d", i, show(p), int(e))
			} else {
				checkParse(t, s, p, api.OK)
			}
		}
	}
	for _, n := range []int{0x600, 0x601, 0x7ff, 0x801, 0x80ff, 0x8101, 0xfffe, 0xffff} {
		p := plain()
		p.Type = n
		checkBoth(t, p, slowBytes(p))
		p = tagged(p, 1)
		checkBoth(t, p, slowBytes(p))
	}
	for _, proto := range []int{0, 1, 5, 6, 7, 16, 17, 18, 255} {
		for _, life := range []int{0, 1, 255} {
			for _, address := range []uint32{0, 1, math.MaxUint32} {
				p := inner(proto)
				p.Life, p.Src, p.Dst = life, address, ^address
				checkBoth(t, p, slowBytes(p))
			}
		}
	}
	for _, proto := range []int{6, 17} {
		for _, port := range []int{0, 1, 65535} {
			p := inner(proto)
			p.Sport, p.Dport = port, 65535-port
			checkBoth(t, p, slowBytes(p))
		}
	}
}

// setter puts a number into one part of a packet.
type setter func(p *api.Packet, n int)

func setVlan(p *api.Packet, n int)  { p.Vlan = n }
func setType(p *api.Packet, n int)  { p.Type = n }
func setSrc(p *api.Packet, n int)   { p.Src = uint32(n) }
func setDst(p *api.Packet, n int)   { p.Dst = uint32(n) }
func setLife(p *api.Packet, n int)  { p.Life = n }
func setProto(p *api.Packet, n int) { p.Proto = n }
func setSport(p *api.Packet, n int) { p.Sport = n }
func setDport(p *api.Packet, n int) { p.Dport = n }

// checkNot is that a packet is not right with one of the numbers in it.
func checkNot(t *testing.T, p api.Packet, set setter, numbers ...int) {
	t.Helper()
	for _, n := range numbers {
		q := p
		set(&q, n)
		checkNoBytes(t, q, api.ErrArg)
	}
}

// checkOutside is that a packet is not right with numbers below low and above high, near ones and far ones.
func checkOutside(t *testing.T, p api.Packet, set setter, low, high int) {
	t.Helper()
	checkNot(t, p, set, low-1, high+1, math.MinInt, math.MaxInt, math.MinInt32, math.MaxInt32, 1<<32+low, 1<<32+high, low-1<<32)
}

// P3.1, 'A packet is right': each part broken alone, in packets of each kind.
func TestNotRight(t *testing.T) {
	for _, p := range kinds() {
		for _, n := range []uint64{1 << 48, 1<<48 + to, 1 << 63, math.MaxUint64} {
			q := p
			q.To = n
			checkNoBytes(t, q, api.ErrArg)
			q = p
			q.From = n
			checkNoBytes(t, q, api.ErrArg)
		}
		checkOutside(t, p, setVlan, 4096, 8191)
		checkNot(t, p, setVlan, 1, 2, 4095, -1, -4096)
		checkNot(t, p, setType, 0, 0x5ff, 0x8100, 0x10000)
	}
	checkNoBytes(t, api.Packet{}, api.ErrArg)
}

func TestNotRightWithoutInner(t *testing.T) { // P3.1
	for _, p := range []api.Packet{plain(), tagged(plain(), 1)} {
		checkOutside(t, p, setType, 0x600, 0xffff)
		checkNot(t, p, setType, -1, 0, 1, 0x80, 0x10800, 0x188b5)
		for _, set := range []setter{setSrc, setDst, setLife, setProto, setSport, setDport} {
			checkNot(t, p, set, 1, 6, 17, 255, -1)
		}
	}
	for _, n := range []int{0, 1, 6, 17, 255} {
		// It has an inner packet, with a Type that may have none.
		checkNot(t, inner(n), setType, 0x7ff, 0x801, 0x88b5, 0xffff)
	}
}

func TestNotRightInside(t *testing.T) { // P3.1
	for _, p := range kinds() {
		if p.Type != 0x800 {
			continue
		}
		checkOutside(t, p, setLife, 0, 255)
		if p.Proto == 6 || p.Proto == 17 {
			checkOutside(t, p, setSport, 0, 65535)
			checkOutside(t, p, setDport, 0, 65535)
			// Ports of a Proto that has none.
			checkNot(t, p, setProto, 0, 5, 7, 16, 18, 255, 6+256, 17+256, 6-256)
			continue
		}
		checkOutside(t, p, setProto, 0, 255)
		checkOutside(t, p, setSport, 0, 0)
		checkOutside(t, p, setDport, 0, 0)
		checkNot(t, p, setSport, 65535)
		checkNot(t, p, setDport, 65535)
	}
}

func TestSizes(t *testing.T) { // P3.1, P3.2
	for _, p := range kinds() {
		p.Data = ""
		room := 1500 - len(frameOf(t, p))
		for _, n := range []int{room - 1, room} {
			p.Data = strings.Repeat("\xa5", n)
			s := frameOf(t, p)
			if len(s) != 1500-room+n {
				t.Errorf("%d bytes of Data: %d", n, len(s))
			}
			checkBoth(t, p, slowBytes(p))
		}
		for _, n := range []int{room + 1, room + 2, 1500, 1501, 65535, 65536, 1 << 20} {
			p.Data = strings.Repeat("\xa5", n)
			checkNoBytes(t, p, api.ErrBig)
			if n < 65000 {
				checkRefused(t, slowBytes(p), api.ErrBig)
			}
			p.To = 1 << 48 // what is named first is answered
			checkNoBytes(t, p, api.ErrArg)
			p.To = to
		}
	}
	for _, c := range []string{"\x00", "\xff", "\x08\x00", "\x81\x00"} {
		checkRefused(t, strings.Repeat(c, 1501), api.ErrBig)
		checkRefused(t, strings.Repeat(c, 1<<20), api.ErrBig)
	}
	checkRefused(t, strings.Repeat("\x00", 1500), api.ErrBytes)
}

// sumPlaces are where the head's and the part's sums begin in the frames of kinds; 0: there is none.
func sumPlaces(p api.Packet) (int, int) {
	place := 14
	if p.Vlan != 0 {
		place = 18
	}
	switch {
	case p.Type != 0x800:
		return 0, 0
	case p.Proto == 17:
		return place + 10, place + 26
	case p.Proto == 6:
		return place + 10, place + 36
	}
	return place + 10, 0
}

func changed(s string, place int, bits byte) string {
	b := []byte(s)
	b[place] ^= bits
	return string(b)
}

// P3.2: a head's sum and a part's sum, alone and together, and beside other faults.
func TestSums(t *testing.T) {
	for _, p := range kinds() {
		s := frameOf(t, p)
		head, part := sumPlaces(p)
		if head == 0 {
			continue
		}
		for bits := 1; bits < 256; bits++ {
			for low := range 2 {
				wrong := changed(s, head+low, byte(bits))
				checkRefused(t, wrong, api.ErrSum)
				if part == 0 {
					continue
				}
				checkRefused(t, changed(s, part+low, byte(bits)), api.ErrSum)
				checkRefused(t, changed(wrong, part+low, byte(bits)), api.ErrSum)
				checkRefused(t, changed(wrong, part+1-low, byte(bits)), api.ErrSum)
			}
		}
		wrong := changed(s, head, 1)
		checkRefused(t, wrong+"x", api.ErrBytes)            // of another length
		checkRefused(t, wrong[:len(wrong)-1], api.ErrBytes) //
		checkRefused(t, changed(wrong, head-9, 1), api.ErrBytes)
		checkRefused(t, wrong+strings.Repeat("x", 1501-len(wrong)), api.ErrBig)
	}
}

// A part's sum that comes to 00 00: of Proto 17 FF FF stands in its place, and of 6 it stands itself.
func TestSumOfNothing(t *testing.T) { // P3.1, P3.2
	for _, p := range []api.Packet{inner(17), inner(6), tagged(inner(17), 7), tagged(inner(6), 7)} {
		_, part := sumPlaces(p)
		p.Data = "\x00\x00" + p.Data
		p.Data = number(uint64(at(frameOf(t, p), part, 2)), 2) + p.Data[2:] // what is missing to it
		s := frameOf(t, p)
		checkBoth(t, p, slowBytes(p))
		zero, full := with(s, part, 0), with(s, part, 65535)
		if p.Proto == 17 {
			checkParse(t, full, p, api.OK)
			checkRefused(t, zero, api.ErrSum)
			checkBytes(t, p, full)
		} else {
			checkParse(t, zero, p, api.OK)
			checkRefused(t, full, api.ErrSum)
			checkBytes(t, p, zero)
		}
	}
	// The head's sum that comes to 00 00 stands itself, of each Proto.
	for _, p := range kinds() {
		head, _ := sumPlaces(p)
		if head == 0 {
			continue
		}
		p.Dst &^= 0xffff
		p.Dst += uint32(at(frameOf(t, p), head, 2))
		s := frameOf(t, p)
		checkParse(t, with(s, head, 0), p, api.OK)
		checkRefused(t, with(s, head, 65535), api.ErrSum)
	}
	// Without the sum (00 00, as other programs may send it), a part of Proto 17 has another one.
	s := frameOf(t, inner(17))
	_, part := sumPlaces(inner(17))
	checkRefused(t, with(s, part, 0), api.ErrSum)
}

func TestCutShort(t *testing.T) { // P3.2
	for _, p := range kinds() {
		s := frameOf(t, p)
		ahead := len(s) - len(p.Data)
		for n := range len(s) {
			if p.Type == 0x800 || n < ahead {
				checkRefused(t, s[:n], api.ErrBytes)
				continue
			}
			want := p
			want.Data = p.Data[:n-ahead]
			checkParse(t, s[:n], want, api.OK)
		}
	}
}

func TestLonger(t *testing.T) { // P3.2
	for _, p := range kinds() {
		s := frameOf(t, p)
		for _, more := range []string{"\x00", "x", "\x00\x00", strings.Repeat("\x00", 46), strings.Repeat("\x00", 1500-len(s))} {
			if p.Type == 0x800 {
				checkRefused(t, s+more, api.ErrBytes)
				continue
			}
			want := p
			want.Data += more
			checkParse(t, s+more, want, api.OK)
		}
	}
}

// P3.2: lengths that don't fit, though all sums do, are of no packet.
func TestLengthsThatDontFit(t *testing.T) {
	for _, p := range kinds() {
		head, part := sumPlaces(p)
		if head == 0 {
			continue
		}
		s := frameOf(t, p)
		begin := head - 10
		for _, n := range []int{0, 19, 20, len(s) - begin - 1, len(s) - begin + 1, len(s), 65535} {
			if n == len(s)-begin {
				continue
			}
			wrong := with(with(s, head, 0), begin+2, n)
			wrong = with(wrong, head, slowSum(wrong[begin:begin+20]))
			checkRefused(t, wrong, api.ErrBytes)
		}
		if p.Proto != 17 {
			continue
		}
		for _, n := range []int{0, 7, 8, 12, 14, 65535} {
			wrong := with(with(s, part, 0), part-2, n)
			for _, size := range []int{n, len(s) - begin - 20} {
				sum := slowSum(s[begin+12:begin+20], "\x00\x11", number(uint64(size), 2), wrong[begin+20:])
				checkRefused(t, with(wrong, part, sum), api.ErrBytes)
			}
		}
	}
}

// P3.2: inner packets too short for the part that their Proto asks for, with sums that fit.
func TestPartsTooShort(t *testing.T) {
	for proto, least := range map[int]int{6: 20, 17: 8} {
		for n := range least {
			p := inner(1)
			p.Data = strings.Repeat("\x00", n)
			s := slowBytes(p)
			s = s[:23] + string([]byte{byte(proto)}) + s[24:]
			s = with(s, 24, 0)
			s = with(s, 24, slowSum(s[14:34]))
			checkRefused(t, s, api.ErrBytes)
		}
	}
}

// P3.2: each byte of a frame, changed to each other one, is what the words say.
func TestEachByteChanged(t *testing.T) {
	for _, p := range kinds() {
		s := frameOf(t, p)
		for place := range len(s) {
			for bits := 1; bits < 256; bits++ {
				wrong := changed(s, place, byte(bits))
				want, e := slowParse(wrong)
				checkParse(t, wrong, want, e)
			}
		}
	}
}

// P3.2: the fixed bytes, each changed alone, while the sums are made to fit.
func TestFixedBytesChanged(t *testing.T) {
	for _, p := range kinds() {
		head, part := sumPlaces(p)
		if head == 0 {
			continue
		}
		s := frameOf(t, p)
		begin := head - 10
		places := []int{0, 1, 4, 5, 6, 7}
		if p.Proto == 6 {
			places = append(places, 24, 25, 26, 27, 28, 29, 30, 31, 32, 33, 34, 35, 38, 39)
		}
		for _, place := range places {
			for bits := 1; bits < 256; bits++ {
				wrong := changed(s, begin+place, byte(bits))
				checkRefused(t, wrong, api.ErrBytes)
				wrong = with(wrong, head, 0)
				wrong = with(wrong, head, slowSum(wrong[begin:begin+20]))
				if part != 0 {
					wrong = with(wrong, part, 0)
					wrong = with(wrong, part, slowSum(wrong[begin+12:begin+20], "\x00", wrong[begin+9:begin+10], number(uint64(len(wrong)-begin-20), 2), wrong[begin+20:]))
				}
				checkRefused(t, wrong, api.ErrBytes)
			}
		}
	}
}

func TestTypesThatAreNone(t *testing.T) { // P3.2
	addresses := strings.Repeat("\x01", 12)
	for n := range 1 << 16 {
		for _, tag := range []string{"", "\x81\x00\x00\x01"} {
			s := addresses + tag + number(uint64(n), 2) + "\x00\x02\x88\xb5"
			want, e := slowParse(s)
			if n < 0x600 && e != api.ErrBytes || n == 0x8100 && tag != "" && e != api.ErrBytes {
				t.Fatal("the model", n)
			}
			checkParse(t, s, want, e)
		}
		s := addresses + "\x81\x00" + number(uint64(n), 2) + "\x88\xb5"
		if n > 4095 {
			checkRefused(t, s, api.ErrBytes)
		} else {
			checkParse(t, s, api.Packet{To: 0x010101010101, From: 0x010101010101, Vlan: 4096 + n, Type: 0x88b5}, api.OK)
		}
	}
	checkRefused(t, addresses+"\x81\x00\x00\x01\x81\x00\x00\x02\x88\xb5", api.ErrBytes) // a tag in a tag
}

func randomPacket(r *rand.Rand) api.Packet {
	p := api.Packet{To: r.Uint64() >> 16, From: r.Uint64() >> 16, Type: 0x600 + r.Intn(0x10000-0x600)}
	if p.Type == 0x8100 {
		p.Type = 0x8101
	}
	if r.Intn(2) == 0 {
		p.Vlan = 4096 + r.Intn(4096)
	}
	data := make([]byte, r.Intn(60))
	if r.Intn(8) == 0 {
		data = make([]byte, r.Intn(1430))
	}
	r.Read(data)
	p.Data = string(data)
	if r.Intn(8) == 0 {
		return p
	}
	p.Type, p.Src, p.Dst, p.Life, p.Proto = 0x800, r.Uint32(), r.Uint32(), r.Intn(256), []int{6, 17, 1, r.Intn(256)}[r.Intn(4)]
	if p.Proto == 6 || p.Proto == 17 {
		p.Sport, p.Dport = r.Intn(65536), r.Intn(65536)
	}
	return p
}

func TestReadIsWrittenAgain(t *testing.T) { // P3.3
	r := rand.New(rand.NewSource(3))
	for range 20000 {
		p := randomPacket(r)
		s := frameOf(t, p)
		checkBoth(t, p, slowBytes(p))
		b := []byte(s)
		for range 1 + r.Intn(3) {
			b[r.Intn(len(b))] = byte(r.Intn(256))
		}
		checkAgain(t, string(b))
		checkAgain(t, string(b[:r.Intn(len(b))]))
	}
}

// checkAgain is P3.2 and P3.3 of whatever bytes.
func checkAgain(t *testing.T, s string) {
	t.Helper()
	want, e := slowParse(s)
	checkParse(t, s, want, e)
	if e == api.OK {
		checkBytes(t, want, s)
	}
}

func FuzzParse(f *testing.F) { // R1, P3.2, P3.3
	for _, p := range kinds() {
		f.Add(slowBytes(p))
	}
	f.Add("")
	f.Fuzz(checkAgain)
}

func FuzzBytes(f *testing.F) { // R1, P3.1, P3.3
	f.Add(uint64(to), uint64(from), 4096, 0x800, uint32(1), uint32(2), 64, 17, 1000, 53, "hi")
	f.Add(uint64(0), uint64(0), 0, 0x88b5, uint32(0), uint32(0), 0, 0, 0, 0, "hi")
	f.Fuzz(func(t *testing.T, to, from uint64, vlan, typ int, src, dst uint32, life, proto, sport, dport int, data string) {
		p := api.Packet{To: to, From: from, Vlan: vlan, Type: typ, Src: src, Dst: dst, Life: life, Proto: proto, Sport: sport, Dport: dport, Data: data}
		s, e := Bytes(p)
		if e != api.OK {
			if s != "" {
				t.Errorf("%d bytes with the error %d", len(s), int(e))
			}
			return
		}
		checkParse(t, s, p, api.OK)
	})
}

// R3: the same is answered again, whatever was asked in between.
func TestOneState(t *testing.T) {
	s := frameOf(t, inner(17))
	for _, p := range kinds() {
		frameOf(t, p)
		checkNoBytes(t, api.Packet{}, api.ErrArg)
		checkRefused(t, "x", api.ErrBytes)
		checkBoth(t, inner(17), s)
	}
}
