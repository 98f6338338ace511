package act

import (
	"math"
	"math/rand"
	"slices"
	"testing"

	"drover/api"
	"drover/field"
	"drover/frame"
)

func output(v uint64) api.Action { return api.Action{Kind: api.Output, Value: v} }

func toGroup(v uint64) api.Action { return api.Action{Kind: api.ToGroup, Value: v} }

func set(f int, v uint64) api.Action { return api.Action{Kind: api.Set, Field: f, Value: v} }

var (
	push = api.Action{Kind: api.Push}
	pop  = api.Action{Kind: api.Pop}
	// noKinds and noFields have the lowest bits of some that are.
	noKinds  = []int{0, -1, -5, 6, 7, 9, 255, 256 + api.Pop, 1<<32 + api.Output, -api.Set, math.MinInt, math.MaxInt}
	noFields = []int{-1, -3, 10, 11, 12, 255, 256 + api.Vlan, 1<<32 + api.Src, -api.Dport, math.MinInt, math.MaxInt}
)

func list(l ...api.Action) []api.Action { return l }

// checkRight asks Encode, too, which refuses just what is not right.
func checkRight(t *testing.T, a api.Action, want bool) {
	t.Helper()
	if Right(a) != want {
		t.Errorf("Right of %+v: %v", a, !want)
	}
	e := api.OK
	if !want {
		e = api.ErrAct
	}
	if s, got := Encode(a); got != e || (s == "") == want {
		t.Errorf("Encode of %+v: %x, %d", a, s, int(got))
	}
}

func TestRightOfNumbers(t *testing.T) { // P6.1: Output and ToGroup
	for _, kind := range []int{api.Output, api.ToGroup} {
		for _, v := range []uint64{1, 2, 16, 255, 65536, 4294967294, 4294967295} {
			checkRight(t, api.Action{Kind: kind, Value: v}, true)
			for _, f := range append([]int{1, 2, 3, 4, 5, 6, 7, 8, 9}, noFields...) {
				checkRight(t, api.Action{Kind: kind, Field: f, Value: v}, false)
			}
		}
		for _, v := range []uint64{0, 4294967296, 4294967297, 1 << 33, 1 << 63, math.MaxUint64} {
			checkRight(t, api.Action{Kind: kind, Value: v}, false)
		}
	}
}

func TestRightOfTags(t *testing.T) { // P6.1: Push and Pop
	for _, kind := range []int{api.Push, api.Pop} {
		checkRight(t, api.Action{Kind: kind}, true)
		for _, v := range []uint64{1, 4096, 0x8100, 4294967295, 1 << 32, 1 << 63, math.MaxUint64} {
			checkRight(t, api.Action{Kind: kind, Value: v}, false)
			checkRight(t, api.Action{Kind: kind, Field: api.Vlan, Value: v}, false)
		}
		for _, f := range append([]int{1, 2, 3, 4, 5, 6, 7, 8, 9}, noFields...) {
			checkRight(t, api.Action{Kind: kind, Field: f}, false)
		}
	}
}

// P6.1: Set of each field, at the edges of its values and beside them.
func TestRightOfSet(t *testing.T) {
	for _, v := range []uint64{4096, 4097, 5000, 8190, 8191} {
		checkRight(t, set(api.Vlan, v), true)
	}
	for _, v := range []uint64{0, 1, 4094, 4095, 8192, 8193, 12288, 65535, 1<<16 + 4096, 1<<32 + 4096, math.MaxUint64} {
		checkRight(t, set(api.Vlan, v), false)
	}
	for _, f := range []int{api.Src, api.Dst} {
		for _, v := range []uint64{0, 1, 4096, 65536, 4294967294, 4294967295} {
			checkRight(t, set(f, v), true)
		}
		for _, v := range []uint64{4294967296, 4294967297, 1 << 33, 1 << 63, math.MaxUint64} {
			checkRight(t, set(f, v), false)
		}
	}
	for _, f := range []int{api.Sport, api.Dport} {
		for _, v := range []uint64{0, 1, 4096, 65534, 65535} {
			checkRight(t, set(f, v), true)
		}
		for _, v := range []uint64{65536, 65537, 1 << 17, 1 << 32, 1 << 63, math.MaxUint64} {
			checkRight(t, set(f, v), false)
		}
	}
	for _, f := range append([]int{0, api.InPort, api.Meta, api.EthType, api.Proto}, noFields...) {
		for _, v := range []uint64{0, 1, 6, 17, 255, 256, 0x800, 4096, 65535, 1 << 32, math.MaxUint64} {
			checkRight(t, set(f, v), false)
		}
	}
}

func TestRightOfNoKind(t *testing.T) { // P6.1
	for _, kind := range noKinds {
		for _, f := range []int{0, api.Vlan, api.Src, -1, 10} {
			for _, v := range []uint64{0, 1, 4096, 65535, 1 << 32} {
				checkRight(t, api.Action{Kind: kind, Field: f, Value: v}, false)
			}
		}
	}
}

// seen is a packet that has another number in each field.
func seen(kind, proto, vlan int) field.Seen {
	return field.Seen{In: 0x11, Meta: 0x2222, P: api.Packet{
		To: 0xa, From: 0xb, Vlan: vlan, Type: kind, Src: 0x5555, Dst: 0x6666,
		Life: 0x40, Proto: proto, Sport: 0x8888, Dport: 0x9999, Data: "x",
	}}
}

// kindsOfPackets are with and without a tag, an inner packet, and ports.
func kindsOfPackets() []field.Seen {
	l := []field.Seen{{}}
	for _, kind := range []int{0x800, 0x88b5, 0, 0x10800} {
		for _, proto := range []int{6, 17, 1, 0, 256 + 6} {
			for _, vlan := range []int{0, 4096, 4099, 8191, 1, 8192, -1, math.MinInt} {
				l = append(l, seen(kind, proto, vlan))
			}
		}
	}
	return l
}

func checkChange(t *testing.T, s field.Seen, a api.Action, want field.Seen) {
	t.Helper()
	if u := Change(s, a); u != want {
		t.Errorf("Change of %+v by %+v: %+v, not %+v", s, a, u, want)
	}
}

func TestChangeOfTags(t *testing.T) { // P6.2
	for _, kind := range []int{0x800, 0x88b5} {
		plain, tagged, other := seen(kind, 6, 0), seen(kind, 6, 4096), seen(kind, 6, 4099)
		checkChange(t, plain, push, tagged)
		checkChange(t, tagged, push, tagged)
		checkChange(t, other, push, other)
		checkChange(t, plain, pop, plain)
		checkChange(t, tagged, pop, plain)
		checkChange(t, other, pop, plain)
		checkChange(t, plain, set(api.Vlan, 4099), plain)
		checkChange(t, tagged, set(api.Vlan, 4099), other)
		checkChange(t, other, set(api.Vlan, 4096), tagged)
		checkChange(t, other, set(api.Vlan, 8191), seen(kind, 6, 8191))
		for _, v := range []uint64{0, 1, 4095, 8192, 1<<32 + 4096, math.MaxUint64} {
			checkChange(t, other, set(api.Vlan, v), other)
		}
	}
}

// P6.2: Set of what is there, and of what is not.
func TestChangeOfFields(t *testing.T) {
	for _, proto := range []int{6, 17} {
		for _, vlan := range []int{0, 4099} {
			s := seen(0x800, proto, vlan)
			u := s
			u.P.Src = 4294967295
			checkChange(t, s, set(api.Src, 4294967295), u)
			u = s
			u.P.Dst = 0
			checkChange(t, s, set(api.Dst, 0), u)
			u = s
			u.P.Sport = 65535
			checkChange(t, s, set(api.Sport, 65535), u)
			u = s
			u.P.Dport = 0
			checkChange(t, s, set(api.Dport, 0), u)
			for f, v := range map[int]uint64{api.Src: 1 << 32, api.Dst: 1 << 32, api.Sport: 65536, api.Dport: 65536} {
				checkChange(t, s, set(f, v), s)
				checkChange(t, s, set(f, math.MaxUint64), s)
			}
		}
	}
	for _, vlan := range []int{0, 4099} {
		inner, outer := seen(0x800, 1, vlan), seen(0x88b5, 6, vlan)
		u := inner
		u.P.Src = 7
		checkChange(t, inner, set(api.Src, 7), u)
		for _, f := range []int{api.Src, api.Dst, api.Sport, api.Dport} {
			checkChange(t, outer, set(f, 7), outer)
		}
		checkChange(t, inner, set(api.Sport, 7), inner)
		checkChange(t, inner, set(api.Dport, 7), inner)
	}
}

// P6.2: an action need not be right: what its Kind says is done with what field says of it.
func TestChangeByWrongActions(t *testing.T) {
	plain, tagged := seen(0x800, 6, 0), seen(0x800, 6, 4096)
	checkChange(t, plain, api.Action{Kind: api.Push, Field: api.Src, Value: 77}, tagged)
	checkChange(t, plain, api.Action{Kind: api.Push, Value: math.MaxUint64}, tagged)
	checkChange(t, tagged, api.Action{Kind: api.Pop, Field: -1, Value: 77}, plain)
	u := plain
	u.Meta = math.MaxUint64
	checkChange(t, plain, set(api.Meta, math.MaxUint64), u)
	for _, f := range append([]int{0, api.InPort, api.EthType, api.Proto}, noFields...) {
		for _, v := range []uint64{0, 1, 6, 17, 0x800, 0x88b5, 4096} {
			checkChange(t, plain, set(f, v), plain)
			checkChange(t, tagged, set(f, v), tagged)
		}
	}
}

// P6.2: what other Kinds do is not done to the packet.
func TestChangeByOtherKinds(t *testing.T) {
	for _, s := range kindsOfPackets() {
		for _, kind := range append([]int{api.Output, api.ToGroup}, noKinds...) {
			for f := 0; f <= 9; f++ {
				for _, v := range []uint64{0, 1, 4097, 1 << 32} {
					checkChange(t, s, api.Action{Kind: kind, Field: f, Value: v}, s)
				}
			}
		}
	}
}

func TestChangeModel(t *testing.T) { // P6.2
	r := rand.New(rand.NewSource(7))
	for _, s := range kindsOfPackets() {
		for range 2000 {
			a := anyAction(r)
			checkChange(t, s, a, slowChange(s, a))
		}
	}
}

// P6.4: what was right to be a frame is it behind any actions.
func TestChangeLeavesFrames(t *testing.T) {
	r := rand.New(rand.NewSource(8))
	for _, p := range []api.Packet{
		{Type: 0x88b5, Data: "hi"},
		{To: 1<<48 - 1, From: 1, Vlan: 8191, Type: 0x600},
		{Type: 0x800, Life: 255, Proto: 6},
		{Vlan: 4096, Type: 0x800, Src: 1, Dst: 2, Proto: 17, Sport: 3, Dport: 4, Data: "hi"},
		{Type: 0x800, Proto: 1, Src: 5},
		{Vlan: 4099, Type: 0x800},
	} {
		s := field.Seen{P: p}
		for range 5000 {
			a := anyAction(r)
			before := s
			s = Change(s, a)
			if _, e := frame.Bytes(s.P); e != api.OK {
				t.Fatalf("%+v by %+v: %+v, %d", before, a, s, int(e))
			}
		}
	}
}

func checkMerge(t *testing.T, before, more, want []api.Action) {
	t.Helper()
	if l := Merge(before, more...); !slices.Equal(l, want) {
		t.Errorf("Merge of %+v and %+v: %+v, not %+v", before, more, l, want)
	}
}

// checkMergeAll has the same actions in the set, behind it, and in both.
func checkMergeAll(t *testing.T, all, want []api.Action) {
	t.Helper()
	for n := range len(all) + 1 {
		checkMerge(t, all[:n], all[n:], want)
	}
}

func TestMerge(t *testing.T) { // P6.3
	checkMergeAll(t, nil, nil)
	checkMergeAll(t, list(output(1), pop, output(2)), list(pop, output(2)))
	for _, a := range list(output(1), toGroup(2), push, pop, set(api.Vlan, 4096), set(api.Dport, 5)) {
		checkMergeAll(t, list(a), list(a))
		checkMergeAll(t, list(a, a, a), list(a))
	}
	checkMergeAll(t, list(output(3), output(1), output(2)), list(output(2)))
	checkMergeAll(t, list(toGroup(3), toGroup(1), toGroup(2)), list(toGroup(2)))
	// That there is a group leaves the port where it is.
	checkMergeAll(t, list(output(3), toGroup(4)), list(toGroup(4), output(3)))
	checkMergeAll(t, list(push, pop), list(pop, push))
	checkMergeAll(t, list(pop, push), list(pop, push))
}

// P6.3: of Set the last one of each Field, by rising Field.
func TestMergeOfSets(t *testing.T) {
	checkMergeAll(t, list(set(api.Src, 9), set(api.Src, 1)), list(set(api.Src, 1)))
	checkMergeAll(t, list(set(api.Src, 1), set(api.Src, 9)), list(set(api.Src, 9)))
	checkMergeAll(t,
		list(set(api.Dport, 1), set(api.Dst, 9), set(api.Vlan, 5000), set(api.Sport, 4), set(api.Src, 5), set(api.Dst, 2)),
		list(set(api.Vlan, 5000), set(api.Src, 5), set(api.Dst, 2), set(api.Sport, 4), set(api.Dport, 1)))
	// Fields that are none have their places, too.
	checkMergeAll(t,
		list(set(math.MaxInt, 1), set(0, 2), set(math.MinInt, 3), set(-1, 4), set(1<<32, 5), set(0, 6), set(math.MaxInt, 7)),
		list(set(math.MinInt, 3), set(-1, 4), set(0, 6), set(1<<32, 5), set(math.MaxInt, 7)))
}

// P6.3: each order of one action a Kind comes into the same one.
func TestMergeOfAllOrders(t *testing.T) {
	want := list(pop, push, set(api.Vlan, 4097), set(api.Dst, 1), toGroup(2), output(3))
	var try func(all []api.Action, n int)
	try = func(all []api.Action, n int) {
		if n == len(all) {
			checkMergeAll(t, all, want)
			return
		}
		for i := n; i < len(all); i++ {
			next := slices.Clone(all)
			next[n], next[i] = next[i], next[n]
			try(next, n+1)
		}
	}
	try(want, 0)
}

func TestMergeOfOtherKinds(t *testing.T) { // P6.3
	for _, kind := range noKinds {
		other := api.Action{Kind: kind, Field: api.Src, Value: 1}
		checkMergeAll(t, list(other), nil)
		checkMergeAll(t, list(other, other), nil)
		checkMergeAll(t, list(other, output(1), other, pop, other), list(pop, output(1)))
		checkMergeAll(t, list(set(api.Src, 2), other), list(set(api.Src, 2)))
	}
	// An action need not be right; it is still one of its Kind, whatever else it has.
	for _, kind := range []int{api.Output, api.ToGroup, api.Push, api.Pop} {
		first, last := api.Action{Kind: kind, Field: 1, Value: 5}, api.Action{Kind: kind, Field: 2, Value: 1 << 40}
		checkMergeAll(t, list(first, last), list(last))
		checkMergeAll(t, list(last, first), list(first))
	}
}

func TestMergeModel(t *testing.T) { // P6.3
	r := rand.New(rand.NewSource(9))
	for range 30000 {
		before, more := anyList(r, 12), anyList(r, 12)
		checkMerge(t, before, more, slowMerge(before, more...))
	}
}

// P6.4: Merge of Merge is Merge of all.
func TestMergeOfMerge(t *testing.T) {
	r := rand.New(rand.NewSource(10))
	for range 20000 {
		a, b, c := anyList(r, 8), anyList(r, 8), anyList(r, 8)
		all := slices.Concat(a, b, c)
		want := Merge(nil, all...)
		checkMerge(t, Merge(a, b...), c, want)
		checkMerge(t, a, Merge(b, c...), want)
		checkMerge(t, Merge(a), Merge(Merge(b), Merge(nil, c...)...), want)
		checkMerge(t, all, nil, want)
		checkMerge(t, want, nil, want)
		checkMerge(t, want, want, want)
	}
}

// A long list comes to an end soon, and the last ones still win.
func TestMergeOfMany(t *testing.T) {
	const n = 200000
	var all, want []api.Action
	for i := range 2 * n {
		all = append(all, set((i*7919)%n, uint64(i)), output(uint64(i)))
	}
	last := make([]uint64, n)
	for _, a := range all {
		if a.Kind == api.Set {
			last[a.Field] = a.Value
		}
	}
	for f, v := range last {
		want = append(want, set(f, v))
	}
	want = append(want, output(2*n-1))
	if l := Merge(all[:n], all[n:]...); !slices.Equal(l, want) {
		t.Errorf("%d actions, not %d", len(l), len(want))
	}
}

// R2: what is handed in stays, what stands behind its length, too; what is answered is the caller's.
func TestMergeIsNew(t *testing.T) {
	back := list(output(1), set(api.Dst, 2), pop, set(api.Src, 3), push, output(4), toGroup(5), set(api.Dst, 6))
	for n := range len(back) {
		for m := n; m <= len(back); m++ {
			given := slices.Clone(back)
			first := Merge(given[:n], given[n:m]...)
			if !slices.Equal(given, back) {
				t.Fatalf("%d, %d: %+v was handed in", n, m, given)
			}
			want := slices.Clone(first)
			second := Merge(first, given[:m]...)
			if !slices.Equal(first, want) || !slices.Equal(given, back) {
				t.Fatalf("%d, %d: the set was written into", n, m)
			}
			again := slices.Clone(second)
			for i := range first[:cap(first)] {
				first[:cap(first)][i] = output(77)
			}
			if !slices.Equal(second, again) || !slices.Equal(given, back) {
				t.Fatalf("%d, %d: answers share memory", n, m)
			}
			for i := range given {
				given[i] = output(78)
			}
			if !slices.Equal(second, again) {
				t.Fatalf("%d, %d: an answer shares memory with what was handed in", n, m)
			}
		}
	}
	// What stands behind the set's length is none of Merge's.
	other := list(output(11), set(api.Dst, 12), pop, pop, push, toGroup(15))
	for n := range back {
		given := slices.Clone(back)
		Merge(given[:n], other...)
		Merge(other[:n/2], given[:n]...)
		if !slices.Equal(given, back) || !slices.Equal(other, list(output(11), set(api.Dst, 12), pop, pop, push, toGroup(15))) {
			t.Fatalf("%d: %+v and %+v were handed in", n, given, other)
		}
	}
	// A set that is whole already is not the answer itself.
	whole := list(pop, push, output(1))
	Merge(whole)[0] = output(9)
	Merge(nil, whole...)[0] = output(9)
	if !slices.Equal(whole, list(pop, push, output(1))) {
		t.Error(whole)
	}
}

// R3: the same is answered again, whatever was asked in between.
func TestOneState(t *testing.T) {
	r := rand.New(rand.NewSource(11))
	before, more := anyList(r, 12), anyList(r, 12)
	want := slowMerge(before, more...)
	data := unhex(slowBytes(output(1)) + slowBytes(pop))
	for range 1000 {
		l := anyList(r, 40)
		Merge(l, l...)
		Encode(l...)
		Decode(data[:r.Intn(len(data))])
		checkMerge(t, before, more, want)
		checkDecode(t, data, list(output(1), pop), api.OK)
	}
}

// anyAction is of any Kind and Field, and often nearly right.
func anyAction(r *rand.Rand) api.Action {
	a := api.Action{Kind: r.Intn(8) - 1}
	if r.Intn(50) == 0 {
		a.Kind = noKinds[r.Intn(len(noKinds))]
	}
	if a.Kind == api.Set || r.Intn(8) == 0 {
		a.Field = r.Intn(12) - 1
	}
	edges := []uint64{0, 1, 2, 4095, 4096, 8191, 8192, 65535, 65536, 1<<32 - 1, 1 << 32}
	switch r.Intn(4) {
	case 0:
	case 1:
		a.Value = r.Uint64() >> r.Intn(64)
	default:
		a.Value = edges[r.Intn(len(edges))]
	}
	return a
}

func anyList(r *rand.Rand, most int) []api.Action {
	var l []api.Action
	for range r.Intn(most + 1) {
		l = append(l, anyAction(r))
	}
	return l
}

func TestRightModel(t *testing.T) { // P6.1
	r := rand.New(rand.NewSource(12))
	for range 100000 {
		a := anyAction(r)
		checkRight(t, a, slowRight(a))
	}
}

func FuzzAction(f *testing.F) { // R1, P6.1, P6.2, P6.3
	f.Add(1, 0, uint64(1), 2, 0, uint64(3), 0, 0x800, 6)
	f.Add(5, 3, uint64(4097), 5, 9, uint64(65536), 4099, 0x88b5, 0)
	f.Fuzz(func(t *testing.T, kind, of int, v uint64, kind2, of2 int, v2 uint64, vlan, ether, proto int) {
		a, b := api.Action{Kind: kind, Field: of, Value: v}, api.Action{Kind: kind2, Field: of2, Value: v2}
		checkRight(t, a, slowRight(a))
		s := seen(ether, proto, vlan)
		checkChange(t, s, a, slowChange(s, a))
		checkMergeAll(t, list(a, b, a), slowMerge(list(a, b, a)))
	})
}
