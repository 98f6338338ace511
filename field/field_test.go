package field

import (
	"math"
	"math/rand"
	"slices"
	"testing"

	"drover/api"
)

// seen is a packet that has a number of its own in each place, so that no place is taken for another.
func seen(kind, proto, vlan int) Seen {
	return Seen{In: 0x11, Meta: 0x2222222222222222, P: api.Packet{
		To: 0xaaaaaaaaaaaa, From: 0xbbbbbbbbbbbb, Vlan: vlan, Type: kind, Src: 0x55555555, Dst: 0x66666666,
		Life: 0xcc, Proto: proto, Sport: 0x8888, Dport: 0x9999, Data: "data",
	}}
}

// kinds are packets of each kind, those with numbers that only nearly make one among them.
func kinds() []Seen {
	var all []Seen
	for _, kind := range []int{0x800, 0x88b5, 0x600, 0, 800, 0x7ff, 0x801, 0x10800, 0x800 - 1<<16, -0x800, 8} {
		for _, proto := range []int{6, 17, 1, 0, 5, 7, 16, 18, 255, 6 + 256, 17 + 256, 6 - 256, -17, -1} {
			for _, vlan := range []int{0, 4099, 8192, -1} {
				all = append(all, seen(kind, proto, vlan))
			}
		}
	}
	return append(all, Seen{})
}

// noFields are numbers that are none.
var noFields = []int{0, -1, -2, -9, 10, 11, 12, 13, 64, 65, 255, 256 + api.Meta, 1<<32 + api.Meta, -api.Meta, math.MinInt, math.MaxInt}

// someValues are the numbers at the edges of each width, and some beyond.
func someValues() []uint64 {
	all := []uint64{0, 1, 2, 3, 4095, 4096, 4097, 8190, 8191, 8192, 8193, 4096 + 8192, math.MaxUint64, math.MaxUint64 - 1}
	for bits := range 64 {
		n := uint64(1) << bits
		all = append(all, n-1, n, n+1)
	}
	return all
}

func checkGet(t *testing.T, s Seen, field int, want uint64, wantError api.Errno) {
	t.Helper()
	if v, e := Get(s, field); v != want || e != wantError {
		t.Errorf("Get of %+v, %d: %#x, %d, not %#x, %d", s, field, v, int(e), want, int(wantError))
	}
}

// answer is what Put, Push and Pop answer.
type answer struct {
	s Seen
	e api.Errno
}

// checkAnswer is told what was asked by arguments alone: few of the many answers are ever shown.
func checkAnswer(t *testing.T, got, want answer, call string, arguments ...any) {
	t.Helper()
	if got != want {
		t.Errorf("%s of %+v:\n%+v, %d, not\n%+v, %d", call, arguments, got.s, int(got.e), want.s, int(want.e))
	}
}

func checkPut(t *testing.T, s Seen, field int, v uint64, want Seen, wantError api.Errno) {
	t.Helper()
	u, e := Put(s, field, v)
	checkAnswer(t, answer{u, e}, answer{want, wantError}, "Put", s, field, v)
}

func checkNotPut(t *testing.T, s Seen, field int, v uint64, want api.Errno) {
	t.Helper()
	checkPut(t, s, field, v, Seen{}, want)
}

func checkPush(t *testing.T, s Seen, n uint64, want Seen, wantError api.Errno) {
	t.Helper()
	u, e := Push(s, n)
	checkAnswer(t, answer{u, e}, answer{want, wantError}, "Push", s, n)
}

func checkPop(t *testing.T, s Seen, want Seen, wantError api.Errno) {
	t.Helper()
	u, e := Pop(s)
	checkAnswer(t, answer{u, e}, answer{want, wantError}, "Pop", s)
}

func checkValues(t *testing.T, s Seen, want ...uint64) {
	t.Helper()
	if l := Values(s); !slices.Equal(l, want) {
		t.Errorf("Values of %+v: %#x, not %#x", s, l, want)
	}
}

func TestWidth(t *testing.T) { // P4.1
	want := []int{0, 32, 64, 13, 16, 32, 32, 8, 16, 16, 0}
	for f, bits := range want {
		if n := Width(f); n != bits {
			t.Errorf("%d: %d, not %d", f, n, bits)
		}
	}
	for _, f := range noFields {
		if n := Width(f); n != 0 {
			t.Errorf("%d: %d", f, n)
		}
	}
	if n := Width(api.Vlan); n != 13 { // the chapter's example
		t.Error(n)
	}
}

// P4.1: each field where it stands, in packets of each kind.
func TestGet(t *testing.T) {
	outer := []uint64{0x11, 0x2222222222222222, 0x1003}
	for _, c := range []struct {
		s     Seen
		inner []uint64 // from EthType on
	}{
		{seen(0x800, 17, 4099), []uint64{0x800, 0x55555555, 0x66666666, 17, 0x8888, 0x9999}},
		{seen(0x800, 6, 4099), []uint64{0x800, 0x55555555, 0x66666666, 6, 0x8888, 0x9999}},
		{seen(0x800, 1, 4099), []uint64{0x800, 0x55555555, 0x66666666, 1}},
		{seen(0x800, 0, 4099), []uint64{0x800, 0x55555555, 0x66666666, 0}},
		{seen(0x88b5, 17, 4099), []uint64{0x88b5}},
		{seen(0, 6, 4099), []uint64{0}},
	} {
		want := slices.Concat(outer, c.inner)
		all := append([]uint64{0}, want...)
		for f := 1; f <= 9; f++ {
			if f <= len(want) {
				checkGet(t, c.s, f, want[f-1], api.OK)
				continue
			}
			checkGet(t, c.s, f, 0, api.ErrField)
			all = append(all, 0)
		}
		checkValues(t, c.s, all...)
	}
	untagged := seen(0x800, 17, 0)
	checkGet(t, untagged, api.Vlan, 0, api.OK)
	checkGet(t, seen(0x88b5, 0, 0), api.Src, 0, api.ErrField) // the chapter's example
	checkGet(t, Seen{}, api.InPort, 0, api.OK)
	checkValues(t, Seen{}, make([]uint64, 10)...)
}

func TestGetOfNoField(t *testing.T) { // P4.1
	for _, s := range kinds() {
		for _, f := range noFields {
			checkGet(t, s, f, 0, api.ErrField)
		}
	}
}

// P4.1: whether there are inner fields hangs on Type and Proto as they stand, not on their lowest bits.
func TestWhichFieldsThereAre(t *testing.T) {
	for _, s := range kinds() {
		inner := s.P.Type == 0x800
		ports := inner && (s.P.Proto == 6 || s.P.Proto == 17)
		for f, there := range map[int]bool{1: true, 2: true, 3: true, 4: true, 5: inner, 6: inner, 7: inner, 8: ports, 9: ports} {
			if _, e := Get(s, f); (e == api.OK) != there || e != api.OK && e != api.ErrField {
				t.Errorf("%+v, %d: %d", s, f, int(e))
			}
		}
	}
}

// P4.1: more bits than the field has, and numbers below 0.
func TestLowestBits(t *testing.T) {
	with := func(change func(s *Seen)) Seen {
		s := seen(0x800, 17, 4099)
		change(&s)
		return s
	}
	for _, c := range []struct {
		s     Seen
		field int
		want  uint64
	}{
		{with(func(s *Seen) { s.In = -1 }), api.InPort, 1<<32 - 1},
		{with(func(s *Seen) { s.In = 1<<32 - 1 }), api.InPort, 1<<32 - 1},
		{with(func(s *Seen) { s.In = 1 << 32 }), api.InPort, 0},
		{with(func(s *Seen) { s.In = 5<<32 + 7 }), api.InPort, 7},
		{with(func(s *Seen) { s.In = math.MinInt }), api.InPort, 0},
		{with(func(s *Seen) { s.In = math.MaxInt }), api.InPort, 1<<32 - 1},
		{with(func(s *Seen) { s.Meta = math.MaxUint64 }), api.Meta, math.MaxUint64},
		{with(func(s *Seen) { s.Meta = 1 << 63 }), api.Meta, 1 << 63},
		{with(func(s *Seen) { s.P.Vlan = 8191 }), api.Vlan, 8191},
		{with(func(s *Seen) { s.P.Vlan = 8192 }), api.Vlan, 0},
		{with(func(s *Seen) { s.P.Vlan = 8195 }), api.Vlan, 3},
		{with(func(s *Seen) { s.P.Vlan = -1 }), api.Vlan, 8191},
		{with(func(s *Seen) { s.P.Vlan = 1 }), api.Vlan, 1},
		{with(func(s *Seen) { s.P.Type = 0xffff }), api.EthType, 0xffff},
		{with(func(s *Seen) { s.P.Type = 0x10800 }), api.EthType, 0x800},
		{with(func(s *Seen) { s.P.Type = -1 }), api.EthType, 0xffff},
		{with(func(s *Seen) { s.P.Src = 1<<32 - 1 }), api.Src, 1<<32 - 1},
		{with(func(s *Seen) { s.P.Dst = 1<<32 - 1 }), api.Dst, 1<<32 - 1},
		{with(func(s *Seen) { s.P.Proto = 255 }), api.Proto, 255},
		{with(func(s *Seen) { s.P.Proto = 256 + 6 }), api.Proto, 6},
		{with(func(s *Seen) { s.P.Proto = -2 }), api.Proto, 254},
		{with(func(s *Seen) { s.P.Sport = 65535 }), api.Sport, 65535},
		{with(func(s *Seen) { s.P.Sport = 65536 }), api.Sport, 0},
		{with(func(s *Seen) { s.P.Sport = -1 }), api.Sport, 65535},
		{with(func(s *Seen) { s.P.Dport = 65535 }), api.Dport, 65535},
		{with(func(s *Seen) { s.P.Dport = 65537 }), api.Dport, 1},
		{with(func(s *Seen) { s.P.Dport = math.MinInt }), api.Dport, 0},
	} {
		checkGet(t, c.s, c.field, c.want, api.OK)
		if l := Values(c.s); l[c.field] != c.want {
			t.Errorf("Values of %+v: %#x, not %#x, of %d", c.s, l, c.want, c.field)
		}
	}
}

func TestValues(t *testing.T) { // P4.1
	for _, s := range kinds() {
		want := []uint64{0}
		for f := 1; f <= 9; f++ {
			v, _ := slowGet(s, f)
			want = append(want, v)
		}
		checkValues(t, s, want...)
	}
}

// P4.2: each field that may be put, at 0, at a number of just its bits and at one bit more.
func TestPut(t *testing.T) {
	s := seen(0x800, 17, 4099)
	for _, c := range []struct {
		field int
		v     uint64
		set   func(s *Seen)
	}{
		{api.Meta, 0, func(s *Seen) { s.Meta = 0 }},
		{api.Meta, math.MaxUint64, func(s *Seen) { s.Meta = math.MaxUint64 }},
		{api.Meta, 1 << 63, func(s *Seen) { s.Meta = 1 << 63 }},
		{api.Vlan, 4096, func(s *Seen) { s.P.Vlan = 4096 }},
		{api.Vlan, 4097, func(s *Seen) { s.P.Vlan = 4097 }},
		{api.Vlan, 8191, func(s *Seen) { s.P.Vlan = 8191 }},
		{api.Src, 0, func(s *Seen) { s.P.Src = 0 }},
		{api.Src, 1<<32 - 1, func(s *Seen) { s.P.Src = 1<<32 - 1 }},
		{api.Dst, 0, func(s *Seen) { s.P.Dst = 0 }},
		{api.Dst, 1<<32 - 1, func(s *Seen) { s.P.Dst = 1<<32 - 1 }},
		{api.Sport, 0, func(s *Seen) { s.P.Sport = 0 }},
		{api.Sport, 65535, func(s *Seen) { s.P.Sport = 65535 }},
		{api.Dport, 0, func(s *Seen) { s.P.Dport = 0 }},
		{api.Dport, 65535, func(s *Seen) { s.P.Dport = 65535 }},
	} {
		want := s
		c.set(&want)
		checkPut(t, s, c.field, c.v, want, api.OK)
	}
	for _, proto := range []int{6, 17} {
		for f, bits := range map[int]int{api.Vlan: 13, api.Src: 32, api.Dst: 32, api.Sport: 16, api.Dport: 16} {
			for _, n := range []uint64{1 << bits, 1<<bits + 4096, 1 << 63, 1<<63 + 4096, math.MaxUint64} {
				checkNotPut(t, seen(0x800, proto, 4099), f, n, api.ErrArg)
			}
		}
	}
}

// P4.2: a Vlan's bounds, and no tag to put it into.
func TestPutVlan(t *testing.T) {
	for _, kind := range []int{0x800, 0x88b5} {
		for _, v := range []uint64{0, 1, 4094, 4095, 8192, 8193, 4096 + 8192, 4096 + 1<<32, math.MaxUint64} {
			checkNotPut(t, seen(kind, 17, 4099), api.Vlan, v, api.ErrArg)
			checkNotPut(t, seen(kind, 17, 0), api.Vlan, v, api.ErrArg)
		}
		for _, v := range []uint64{4096, 4097, 8190, 8191} {
			checkNotPut(t, seen(kind, 17, 0), api.Vlan, v, api.ErrNone)
			// A tag is there if P.Vlan is not 0, whatever else it is.
			for _, vlan := range []int{1, 4095, 4096, 8191, 8192, 3 << 13, -1, -8192, math.MinInt, math.MaxInt} {
				checkPut(t, seen(kind, 17, vlan), api.Vlan, v, seen(kind, 17, int(v)), api.OK)
			}
		}
	}
}

// P4.2: what may not be put, whatever the value, and what is not there.
func TestPutWithoutField(t *testing.T) {
	for _, s := range kinds() {
		inner := s.P.Type == 0x800
		ports := inner && (s.P.Proto == 6 || s.P.Proto == 17)
		not := append([]int{api.InPort, api.EthType, api.Proto}, noFields...)
		if !inner {
			not = append(not, api.Src, api.Dst)
		}
		if !ports {
			not = append(not, api.Sport, api.Dport)
		}
		for _, f := range not {
			// ErrField is named first: of too many bits, too.
			for _, v := range []uint64{0, 1, 6, 17, 0x800, 4096, 1 << 16, 1 << 32, math.MaxUint64} {
				checkNotPut(t, s, f, v, api.ErrField)
			}
		}
	}
}

func TestPush(t *testing.T) { // P4.3
	for _, kind := range []int{0x800, 0x88b5, 0} {
		for _, proto := range []int{17, 6, 1} {
			plain := seen(kind, proto, 0)
			for _, n := range []uint64{0, 1, 3, 4094, 4095} {
				checkPush(t, plain, n, seen(kind, proto, 4096+int(n)), api.OK)
			}
			for _, n := range []uint64{4096, 4097, 8191, 8192, 1 << 16, 1 << 32, 1 << 63, math.MaxUint64 - 4095, math.MaxUint64} {
				checkPush(t, plain, n, Seen{}, api.ErrArg)
			}
			for _, vlan := range []int{1, 4095, 4096, 8191, 8192, -1, -8192, math.MinInt, math.MaxInt} {
				// ErrTwice is named first.
				for _, n := range []uint64{0, 4095, 4096, math.MaxUint64} {
					checkPush(t, seen(kind, proto, vlan), n, Seen{}, api.ErrTwice)
				}
			}
		}
	}
	checkPush(t, Seen{}, 0, Seen{P: api.Packet{Vlan: 4096}}, api.OK)
}

func TestPop(t *testing.T) { // P4.3
	for _, kind := range []int{0x800, 0x88b5, 0} {
		for _, proto := range []int{17, 6, 1} {
			for _, vlan := range []int{1, 4095, 4096, 8191, 8192, -1, -8192, math.MinInt, math.MaxInt} {
				checkPop(t, seen(kind, proto, vlan), seen(kind, proto, 0), api.OK)
			}
			checkPop(t, seen(kind, proto, 0), Seen{}, api.ErrNone)
		}
	}
	checkPop(t, Seen{}, Seen{}, api.ErrNone)
}

// P4.4: what was put is got, and the other fields stay.
func TestPutIsGot(t *testing.T) {
	for _, s := range kinds() {
		before := Values(s)
		for f := 1; f <= 9; f++ {
			for _, v := range someValues() {
				u, e := Put(s, f, v)
				if e != api.OK {
					continue
				}
				checkGet(t, u, f, v, api.OK)
				want := slices.Clone(before)
				want[f] = v
				checkValues(t, u, want...)
			}
		}
	}
}

// P4.4: Pop of Push is the packet.
func TestPopOfPush(t *testing.T) {
	for _, s := range []Seen{seen(0x800, 17, 0), seen(0x800, 6, 0), seen(0x800, 1, 0), seen(0x88b5, 17, 0), {}} {
		for n := range uint64(4096) {
			u, e := Push(s, n)
			if e != api.OK {
				t.Fatalf("%+v, %d: %d", s, n, int(e))
			}
			checkGet(t, u, api.Vlan, 4096+n, api.OK)
			checkPop(t, u, s, api.OK)
		}
	}
}

// P4.1, P4.2: the calls and the model, over all kinds, fields and edges.
func TestModel(t *testing.T) {
	for f := -100; f <= 100; f++ {
		if n, want := Width(f), slowWidth(f); n != want {
			t.Errorf("Width of %d: %d, not %d", f, n, want)
		}
	}
	values := someValues()
	for _, s := range kinds() {
		for f := -1; f <= 10; f++ {
			want, e := slowGet(s, f)
			checkGet(t, s, f, want, e)
			for _, v := range values {
				want, e := slowPut(s, f, v)
				checkPut(t, s, f, v, want, e)
			}
		}
	}
}

// anyNumber is of any size, and often one of the edges.
func anyNumber(r *rand.Rand) uint64 {
	edges := []uint64{0, 1, 6, 17, 0x800, 4095, 4096, 8191, 8192, 65535, 65536, 1<<32 - 1, 1 << 32}
	if r.Intn(2) == 0 {
		return edges[r.Intn(len(edges))]
	}
	return r.Uint64() >> r.Intn(64)
}

func TestModelOfAnyPackets(t *testing.T) { // P4.1, P4.2, P4.3
	r := rand.New(rand.NewSource(4))
	for range 200000 {
		s := Seen{In: int(anyNumber(r)), Meta: anyNumber(r), P: api.Packet{
			To: anyNumber(r), From: anyNumber(r), Vlan: int(anyNumber(r)), Type: int(anyNumber(r)),
			Src: uint32(anyNumber(r)), Dst: uint32(anyNumber(r)), Life: int(anyNumber(r)),
			Proto: int(anyNumber(r)), Sport: int(anyNumber(r)), Dport: int(anyNumber(r)), Data: "x",
		}}
		if r.Intn(2) == 0 {
			s.P.Type = 0x800
		}
		checkAll(t, s, r.Intn(12)-1, anyNumber(r))
	}
}

// checkAll is all promises of one packet, field and value.
func checkAll(t *testing.T, s Seen, f int, v uint64) {
	t.Helper()
	want, e := slowGet(s, f)
	checkGet(t, s, f, want, e)
	with, e := slowPut(s, f, v)
	checkPut(t, s, f, v, with, e)
	tagged, untagged := s, s
	tagged.P.Vlan, untagged.P.Vlan = int(4096+v), 0
	switch {
	case s.P.Vlan != 0:
		checkPush(t, s, v, Seen{}, api.ErrTwice)
		checkPop(t, s, untagged, api.OK)
	case v > 4095:
		checkPush(t, s, v, Seen{}, api.ErrArg)
		checkPop(t, s, Seen{}, api.ErrNone)
	default:
		checkPush(t, s, v, tagged, api.OK)
		checkPop(t, s, Seen{}, api.ErrNone)
	}
}

func FuzzField(f *testing.F) { // R1, P4.1, P4.2, P4.3
	f.Add(1, uint64(2), 4099, 0x800, uint32(5), uint32(6), 17, 8, 9, 5, uint64(7))
	f.Add(-1, uint64(0), 0, 0x88b5, uint32(0), uint32(0), 0, 0, 0, 3, uint64(4096))
	f.Fuzz(func(t *testing.T, in int, meta uint64, vlan, kind int, src, dst uint32, proto, sport, dport, field int, v uint64) {
		s := Seen{In: in, Meta: meta, P: api.Packet{Vlan: vlan, Type: kind, Src: src, Dst: dst, Proto: proto, Sport: sport, Dport: dport, Data: "x"}}
		checkAll(t, s, field, v)
	})
}

// R2: what Values answers is the caller's.
func TestValuesAreNew(t *testing.T) {
	s := seen(0x800, 17, 4099)
	first, second := Values(s), Values(s)
	for i := range first {
		first[i] = 77
	}
	_ = append(first[:5], 1, 2, 3)
	checkValues(t, s, second...)
	if second[1] != 0x11 || second[9] != 0x9999 {
		t.Errorf("%#x", second)
	}
}

// R3: the same is answered again, whatever was asked in between.
func TestOneState(t *testing.T) {
	s := seen(0x800, 17, 4099)
	want := Values(s)
	for _, other := range kinds() {
		Values(other)
		Put(other, api.Meta, 1)
		Push(other, 1)
		Pop(other)
		checkValues(t, s, want...)
		checkPut(t, s, api.Vlan, 4096, seen(0x800, 17, 4096), api.OK)
	}
}
