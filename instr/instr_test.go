package instr

import (
	"math"
	"math/rand"
	"slices"
	"testing"

	"drover/api"
)

func output(v uint64) api.Action { return api.Action{Kind: api.Output, Value: v} }

func toGroup(v uint64) api.Action { return api.Action{Kind: api.ToGroup, Value: v} }

func set(f int, v uint64) api.Action { return api.Action{Kind: api.Set, Field: f, Value: v} }

func list(l ...api.Action) []api.Action { return l }

func pops(n int) []api.Action { return slices.Repeat(list(pop), n) }

var (
	push = api.Action{Kind: api.Push}
	pop  = api.Action{Kind: api.Pop}
	// wrongActions are just beside some that are right.
	wrongActions = list(api.Action{}, output(0), output(1<<32), toGroup(0), toGroup(1<<32), set(0, 0), set(api.Meta, 1), set(api.Vlan, 4095),
		set(api.Vlan, 8192), set(api.Sport, 65536), api.Action{Kind: api.Push, Value: 1}, api.Action{Kind: api.Pop, Field: 3}, api.Action{Kind: 6})
	// noTables and noMeters have the lowest bits of some that are.
	noTables = []int{-1, -2, -7, -8, 8, 9, 15, 16, 255, 256, 1 << 16, 1 << 32, 1<<32 + 3, -1 << 32, math.MinInt, math.MaxInt}
	noMeters = []int{-1, -2, -16, 17, 18, 32, 255, 256, 256 + 1, 1 << 16, 1<<32 - 1, 1 << 32, 1<<32 + 1, -1 << 32, math.MinInt, math.MaxInt}
)

// same is whether two entries are the same; a list without elements may be nil or not.
func same(a, b api.Entry) bool {
	return a.Table == b.Table && a.Priority == b.Priority && slices.Equal(a.Tests, b.Tests) &&
		slices.Equal(a.Apply, b.Apply) && slices.Equal(a.Write, b.Write) && a.Clear == b.Clear &&
		a.Meta == b.Meta && a.MetaMask == b.MetaMask && a.Meter == b.Meter && a.Goto == b.Goto
}

// checkRight asks Encode, too, which has Right's error.
func checkRight(t *testing.T, x api.Entry, want api.Errno) {
	t.Helper()
	if e := Right(x); e != want {
		t.Errorf("Right of %+v: %d, not %d", x, int(e), int(want))
	}
	if s, e := Encode(x); e != want || (e != api.OK && s != "") {
		t.Errorf("Encode of %+v: %x, %d, not %d", x, s, int(e), int(want))
	}
}

func TestRightOfTable(t *testing.T) { // P7.1
	for table := range 8 {
		checkRight(t, api.Entry{Table: table}, api.OK)
		checkRight(t, api.Entry{Table: table, Meter: 1, Clear: true, Apply: list(output(1))}, api.OK)
	}
	for _, table := range noTables {
		checkRight(t, api.Entry{Table: table}, api.ErrTable)
		checkRight(t, api.Entry{Table: table, Goto: 7}, api.ErrTable)
	}
}

func TestRightOfActions(t *testing.T) { // P7.1
	good := list(output(1), output(4294967295), toGroup(1), push, pop, set(api.Vlan, 4096), set(api.Src, 0), set(api.Dst, 4294967295),
		set(api.Sport, 65535), set(api.Dport, 0))
	checkRight(t, api.Entry{Apply: good, Write: good}, api.OK)
	for _, a := range good {
		checkRight(t, api.Entry{Apply: list(a)}, api.OK)
		checkRight(t, api.Entry{Write: list(a)}, api.OK)
		checkRight(t, api.Entry{Apply: list(a, a), Write: list(a, a)}, api.OK)
	}
	for _, bad := range wrongActions {
		checkRight(t, api.Entry{Apply: list(bad)}, api.ErrAct)
		checkRight(t, api.Entry{Write: list(bad)}, api.ErrAct)
		checkRight(t, api.Entry{Apply: good, Write: list(pop, bad)}, api.ErrAct)
		checkRight(t, api.Entry{Apply: list(pop, pop, bad, pop), Write: good}, api.ErrAct)
	}
}

func TestRightOfHowManyActions(t *testing.T) { // P7.1
	for _, n := range []int{0, 1, 31, 32} {
		checkRight(t, api.Entry{Apply: pops(n)}, api.OK)
		checkRight(t, api.Entry{Write: pops(n)}, api.OK)
		checkRight(t, api.Entry{Apply: pops(n), Write: pops(32)}, api.OK)
	}
	for _, n := range []int{33, 34, 64, 256, 288} {
		checkRight(t, api.Entry{Apply: pops(n)}, api.ErrBig)
		checkRight(t, api.Entry{Write: pops(n)}, api.ErrBig)
		checkRight(t, api.Entry{Apply: pops(n), Write: pops(n)}, api.ErrBig)
	}
	// What is wrong with Apply is told ahead of what is wrong with Write.
	for _, bad := range wrongActions {
		checkRight(t, api.Entry{Apply: append(pops(40), bad)}, api.ErrAct)
		checkRight(t, api.Entry{Apply: pops(33), Write: list(bad)}, api.ErrBig)
		checkRight(t, api.Entry{Apply: list(bad), Write: pops(33)}, api.ErrAct)
		checkRight(t, api.Entry{Apply: pops(32), Write: append(pops(33), bad)}, api.ErrAct)
	}
}

func TestRightOfMeter(t *testing.T) { // P7.1
	for meter := range 17 {
		checkRight(t, api.Entry{Meter: meter}, api.OK)
	}
	for _, meter := range noMeters {
		checkRight(t, api.Entry{Meter: meter}, api.ErrMeter)
	}
}

func TestRightOfMeta(t *testing.T) { // P7.1
	for _, c := range []struct {
		meta, mask uint64
		want       api.Errno
	}{
		{0, 0, api.OK},
		{0, 1, api.OK},
		{1, 1, api.OK},
		{2, 6, api.OK},
		{6, 6, api.OK},
		{0, math.MaxUint64, api.OK},
		{math.MaxUint64, math.MaxUint64, api.OK},
		{1 << 63, 1 << 63, api.OK},
		{1, 0, api.ErrInstr},
		{1 << 63, 0, api.ErrInstr},
		{1 << 32, 1<<32 - 1, api.ErrInstr},
		{1, 2, api.ErrInstr},
		{3, 2, api.ErrInstr},
		{7, 6, api.ErrInstr},
		{2, 1 << 32, api.ErrInstr},
		{math.MaxUint64, 0, api.ErrInstr},
		{math.MaxUint64, math.MaxUint64 - 1, api.ErrInstr},
		{math.MaxUint64, math.MaxUint64 >> 1, api.ErrInstr},
	} {
		checkRight(t, api.Entry{Meta: c.meta, MetaMask: c.mask}, c.want)
	}
	for i := range 64 {
		for j := range 64 {
			want := api.OK
			if i != j {
				want = api.ErrInstr
			}
			checkRight(t, api.Entry{Meta: 1 << i, MetaMask: 1 << j}, want)
		}
	}
}

func TestRightOfGoto(t *testing.T) { // P7.1
	for table := range 8 {
		checkRight(t, api.Entry{Table: table, Goto: 0}, api.OK)
		for to := 1; to < 8; to++ {
			want := api.OK
			if to <= table {
				want = api.ErrInstr
			}
			checkRight(t, api.Entry{Table: table, Goto: to}, want)
		}
		for _, to := range noTables {
			checkRight(t, api.Entry{Table: table, Goto: to}, api.ErrInstr)
		}
	}
}

// P7.1, R1: what is named first is told.
func TestRightOfSeveralErrors(t *testing.T) {
	x := api.Entry{Table: 8, Apply: list(output(0)), Write: pops(33), Meter: 17, Meta: 1, Goto: 8}
	checkRight(t, x, api.ErrTable)
	x.Table = -1
	checkRight(t, x, api.ErrTable)
	x.Table = 3
	checkRight(t, x, api.ErrAct)
	x.Apply = pops(33)
	x.Write = list(output(0))
	checkRight(t, x, api.ErrBig)
	x.Apply = pops(32)
	checkRight(t, x, api.ErrAct)
	x.Write = pops(33)
	checkRight(t, x, api.ErrBig)
	x.Write = nil
	checkRight(t, x, api.ErrMeter)
	x.Meter = -1
	checkRight(t, x, api.ErrMeter)
	x.Meter = 16
	checkRight(t, x, api.ErrInstr)
	x.Meta = 0
	checkRight(t, x, api.ErrInstr)
	x.Meta, x.Goto = 1, 4
	checkRight(t, x, api.ErrInstr)
	x.MetaMask = 1
	checkRight(t, x, api.OK)
}

// P7.1: Priority and Tests do not count, right or not.
func TestPriorityAndTestsDoNotCount(t *testing.T) {
	r := rand.New(rand.NewSource(1))
	for range 5000 {
		x := anyEntry(r)
		y := x
		y.Priority = []int{-1, 0, 1, 65535, 65536, math.MinInt, math.MaxInt}[r.Intn(7)]
		y.Tests = []api.Test{{Field: r.Intn(12) - 1, Value: r.Uint64(), Mask: r.Uint64()}, {Field: -5}, {Field: -5}}
		checkRight(t, y, Right(x))
		s, e := Encode(x)
		if u, f := Encode(y); u != s || f != e {
			t.Fatalf("%+v: %x, %d, not %x, %d", y, u, int(f), s, int(e))
		}
		if e == api.OK {
			checkDecode(t, x.Table, s, x, api.OK)
		}
	}
}

// anyEntry is nearly right, most often.
func anyEntry(r *rand.Rand) api.Entry {
	x := api.Entry{Table: r.Intn(8), Apply: anyActions(r), Write: anyActions(r), Clear: r.Intn(2) == 0}
	if r.Intn(2) == 0 {
		x.MetaMask = r.Uint64() << r.Intn(64) >> r.Intn(64)
		x.Meta = r.Uint64() & x.MetaMask
	}
	if r.Intn(2) == 0 {
		x.Meter = r.Intn(17)
	}
	if r.Intn(2) == 0 {
		x.Goto = r.Intn(8)
	}
	switch r.Intn(12) {
	case 0:
		x.Table = noTables[r.Intn(len(noTables))]
	case 1:
		x.Meter = noMeters[r.Intn(len(noMeters))]
	case 2:
		x.Goto = noTables[r.Intn(len(noTables))]
	case 3:
		x.Meta = r.Uint64() >> r.Intn(64)
	}
	return x
}

// anyActions are right but for a few, and few but for some.
func anyActions(r *rand.Rand) []api.Action {
	var l []api.Action
	n := r.Intn(4)
	if r.Intn(16) == 0 {
		n = 30 + r.Intn(5)
	}
	right := list(output(1), output(0x00040008), toGroup(5), push, pop, set(api.Vlan, 5000), set(api.Src, 7), set(api.Dst, 8),
		set(api.Sport, 9), set(api.Dport, 10))
	for range n {
		l = append(l, right[r.Intn(len(right))])
	}
	if n > 0 && r.Intn(24) == 0 {
		l[r.Intn(n)] = wrongActions[r.Intn(len(wrongActions))]
	}
	return l
}

func TestRightModel(t *testing.T) { // P7.1
	r := rand.New(rand.NewSource(2))
	for range 50000 {
		x := anyEntry(r)
		checkRight(t, x, slowRight(x))
	}
}

// R2: what is handed in stays, what stands behind the lists' lengths, too.
func TestGivenStays(t *testing.T) {
	back := list(output(1), set(api.Dst, 2), pop, api.Action{}, toGroup(3), push, output(0))
	tests := []api.Test{{Field: 1, Value: 2, Mask: 3}, {Field: 4}}
	for n := range len(back) + 1 {
		for m := range len(back) + 1 {
			apply, write, given := slices.Clone(back), slices.Clone(back), slices.Clone(tests)
			x := api.Entry{Table: 1, Priority: 5, Tests: given[:1], Apply: apply[:n], Write: write[:m], Meter: 1, Goto: 2}
			Right(x)
			Encode(x)
			if !slices.Equal(apply, back) || !slices.Equal(write, back) || !slices.Equal(given, tests) {
				t.Fatalf("%d, %d: %+v, %+v, %+v were handed in", n, m, apply, write, given)
			}
		}
	}
}

// R2, R3: the same is answered again, whatever was asked in between, and what was answered earlier stays.
func TestOneState(t *testing.T) {
	r := rand.New(rand.NewSource(3))
	x := whole()
	data := unhex(wholeDigits)
	earlier, _ := Decode(x.Table, data)
	for range 2000 {
		y := anyEntry(r)
		Right(y)
		if s, e := Encode(y); e == api.OK {
			Decode(r.Intn(8), s)
		}
		Decode(r.Intn(8), data[:r.Intn(len(data))])
		checkEncode(t, x, data, api.OK)
		checkDecode(t, x.Table, data, x, api.OK)
		if !same(earlier, x) {
			t.Fatalf("%+v was answered", earlier)
		}
	}
}
