package table

import (
	"math"
	"testing"

	"drover/api"
	"drover/field"
)

// numbersOfNone are those of no table.
var numbersOfNone = []int{-1, 8, -8, 9, 256, 1 << 32, 1<<32 + 1, math.MinInt, math.MaxInt}

func TestNew(t *testing.T) { // P11.1
	for room := 1; room <= 256; room++ {
		f := flows(t, room)
		for table := range 8 {
			checkList(t, f, table)
			checkNothing(t, f, table, field.Seen{In: 1})
		}
		table := room % 8
		for i := range room {
			checkDone(t, f, call{"Add", entry(table, 5, 1, inPort(uint64(i))), false})
		}
		checkRefused(t, f, call{"Add", entry(table, 5, 1), false}, api.ErrFull)
	}
}

func TestNewRefuses(t *testing.T) { // P11.1, R1
	for _, room := range []int{-1, 0, 257, -256, 258, 512 + 1, 65536 + 1, 1<<32 + 1, math.MinInt, math.MaxInt} {
		if f, e := New(room); f != nil || e != api.ErrArg {
			t.Errorf("New(%d): %v %d", room, f, int(e))
		}
	}
}

func TestNilTables(t *testing.T) { // P11.1, R1: ErrNil is named ahead of all
	var f *Flows
	l := []api.Entry{{}, rich(1, 5, 1, inPort(1)), {Table: -1}, {Table: 8}, {Priority: -1}, {Goto: 8}, {Tests: make([]api.Test, 1)}, {Apply: make([]api.Action, 33)}}
	for _, x := range rightEntries() {
		l = append(l, x)
	}
	for _, x := range l {
		for _, c := range callsOf(x) {
			if e := c.of(f); e != api.ErrNil {
				t.Errorf("%s(%+v, %v): %d", c.name, c.x, c.how, int(e))
			}
		}
	}
	for _, table := range append([]int{0, 1, 7}, numbersOfNone...) {
		checkNothing(t, f, table, field.Seen{})
		checkNothing(t, f, table, field.Seen{In: 1, P: api.Packet{Type: 0x0800}})
		checkList(t, f, table)
	}
}

func TestTablesThatNobodyMade(t *testing.T) { // R1: they have no room
	var f Flows
	checkRefused(t, &f, call{"Add", entry(0, 5, 1), true}, api.ErrFull)
	checkRefused(t, &f, call{"Add", entry(8, 5, 1), true}, api.ErrTable)
	checkDone(t, &f, call{"Modify", entry(0, 5, 1), true})
	checkDone(t, &f, call{"Delete", entry(0, 5, 1), false})
	checkList(t, &f, 0)
	checkNothing(t, &f, 0, field.Seen{})
}

func TestExample(t *testing.T) { // Examples: whichever comes first
	one, two := rich(0, 1, 1), rich(0, 2, 2)
	checkLook(t, flows(t, 4, one, two), 0, field.Seen{In: 3}, two)
	checkLook(t, flows(t, 4, two, one), 0, field.Seen{In: 3}, two)
}

func TestLook(t *testing.T) { // P11.4
	web := []api.Test{inner(), proto(6), dport(80)}
	f := flows(t, 8,
		rich(1, 5, 1, inPort(1)), rich(1, 5, 2, vlan(1)), rich(1, 5, 3, meta(1, 3)),
		rich(1, 9, 4, web...), rich(1, 7, 5, inner(), src(10<<24, 255<<24)), rich(1, 65535, 6, inPort(7)))
	packet := api.Packet{Vlan: 4097, Type: 0x0800, Src: 10<<24 + 5, Proto: 6, Dport: 80}
	udp, far, plain, bare := packet, packet, packet, packet
	udp.Proto = 17
	far.Src, far.Dport = 11<<24, 81
	plain.Type = 0x88b5
	bare.Vlan, bare.Type = 0, 0x88b5
	for _, c := range []struct {
		s    field.Seen
		want api.Entry // of those that take the packet, several of most, the first one
	}{
		{field.Seen{In: 1, Meta: 1, P: packet}, rich(1, 9, 4, web...)},
		{field.Seen{In: 7, Meta: 1, P: packet}, rich(1, 65535, 6, inPort(7))},
		{field.Seen{In: 1, Meta: 1, P: udp}, rich(1, 7, 5, inner(), src(10<<24, 255<<24))},
		{field.Seen{In: 1, Meta: 1, P: far}, rich(1, 5, 1, inPort(1))},
		{field.Seen{In: 1, Meta: 1, P: plain}, rich(1, 5, 1, inPort(1))},
		{field.Seen{In: 2, Meta: 1, P: plain}, rich(1, 5, 2, vlan(1))},
		{field.Seen{In: 2, Meta: 5, P: bare}, rich(1, 5, 3, meta(1, 3))},
	} {
		checkLook(t, f, 1, c.s, c.want)
		for _, table := range append([]int{0, 2, 7}, numbersOfNone...) { // with no entry
			checkNothing(t, f, table, c.s)
		}
	}
	checkNothing(t, f, 1, field.Seen{In: 2, Meta: 2, P: bare}) // with none that takes it
	checkNothing(t, f, 1, field.Seen{})
}

func TestLookGoesByWhenTheyWerePut(t *testing.T) { // P11.4, Words: of one Priority, whatever they ask
	a, b, c := rich(0, 5, 1, inPort(1), vlan(1)), rich(0, 5, 2), rich(0, 5, 3, vlan(1))
	s := field.Seen{In: 1, P: api.Packet{Vlan: 4097}}
	checkLook(t, flows(t, 4, a, b, c), 0, s, a)
	checkLook(t, flows(t, 4, b, a, c), 0, s, b)
	checkLook(t, flows(t, 4, c, b, a), 0, s, c)
	f := flows(t, 4, a, b, c)
	b2 := rich(0, 5, 4)
	checkDone(t, f, call{"Add", b2, false})
	checkLook(t, f, 0, s, a)
	checkDone(t, f, call{"Delete", a, true})
	checkLook(t, f, 0, s, b2)
	checkDone(t, f, call{"Add", a, false})
	checkLook(t, f, 0, s, b2)
	checkDone(t, f, call{"Delete", b, true})
	checkLook(t, f, 0, s, c)
}

func TestNumbersOfTables(t *testing.T) { // P11.4, Words
	f := flows(t, 2)
	for table := range 8 {
		checkDone(t, f, call{"Add", entry(table, table, uint64(table)), true})
		checkDone(t, f, call{"Add", entry(table, 9, 100, inPort(1)), true})
	}
	for table := range 8 {
		checkList(t, f, table, entry(table, 9, 100, inPort(1)), entry(table, table, uint64(table)))
		checkLook(t, f, table, field.Seen{In: 1}, entry(table, 9, 100, inPort(1)))
		checkLook(t, f, table, field.Seen{In: 2}, entry(table, table, uint64(table)))
	}
	for _, table := range numbersOfNone {
		checkList(t, f, table)
		checkNothing(t, f, table, field.Seen{In: 1})
	}
}

func TestLookAndListChangeNothing(t *testing.T) { // P11.4, R3
	f := flows(t, 16, some()...)
	for range 20 {
		checkLook(t, f, 1, field.Seen{In: 1}, some()[0])
		checkNothing(t, f, 3, field.Seen{In: 1})
		checkTables(t, f, some())
	}
}

func TestObjectsKnowNothingOfEachOther(t *testing.T) { // R3
	a, b := flows(t, 2), flows(t, 1)
	checkDone(t, a, call{"Add", entry(0, 5, 1), true})
	checkList(t, b, 0)
	checkDone(t, b, call{"Modify", entry(0, 5, 2), true})
	checkDone(t, b, call{"Delete", entry(0, 5, 2), false})
	checkList(t, a, 0, entry(0, 5, 1))
	checkDone(t, b, call{"Add", entry(0, 5, 3), true})
	checkList(t, a, 0, entry(0, 5, 1))
	checkRefused(t, b, call{"Add", entry(0, 6, 4), false}, api.ErrFull)
	checkDone(t, a, call{"Add", entry(0, 6, 4), true})
	checkDone(t, a, call{"Modify", entry(0, 6, 5), false})
	checkList(t, b, 0, entry(0, 5, 3))
	checkDone(t, a, call{"Delete", entry(0, 6, 5), false})
	checkList(t, a, 0)
	checkList(t, b, 0, entry(0, 5, 3))
	checkLook(t, b, 0, field.Seen{}, entry(0, 5, 3))
	checkNothing(t, a, 0, field.Seen{})
}
