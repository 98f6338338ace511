package wire

import (
	"math"
	"math/rand"
	"slices"
	"strings"
	"testing"

	"drover/api"
)

func output(v uint64) api.Action { return api.Action{Kind: api.Output, Value: v} }

func list(l ...api.Action) []api.Action { return l }

func pops(n int) []api.Action { return slices.Repeat(list(pop), n) }

func group(l ...api.Bucket) api.Group { return api.Group{ID: 1, Kind: api.All, Buckets: l} }

func flow(x api.Entry) Message { return Message{Kind: FlowMod, Entry: x} }

func groupOf(l ...api.Bucket) Message { return Message{Kind: GroupMod, Group: group(l...)} }

func packetOf(l ...api.Action) Message { return Message{Kind: PacketOut, Actions: l} }

const (
	popDigits   = "0012 0008 00000000"
	outDigits   = "0000 0010 00000009 ffff 000000000000"
	emptyBucket = "0010 0000 ffffffff ffffffff 00000000"
)

var (
	pop   = api.Action{Kind: api.Pop}
	inner = api.Test{Field: api.EthType, Value: 0x0800, Mask: 0xffff}
	from  = api.Test{Field: api.Src, Value: 10 << 24, Mask: 0xff << 24}
	kinds = []int{Hello, Error, Echo, EchoBack, PortStatus, PacketOut, FlowMod, GroupMod, Barrier, BarrierBack, MeterMod}
	// wrongActions are just beside some that are right.
	wrongActions = list(api.Action{}, output(0), output(1<<32), api.Action{Kind: api.ToGroup}, api.Action{Kind: api.Set},
		api.Action{Kind: api.Set, Field: api.Sport, Value: 65536}, api.Action{Kind: api.Pop, Field: 3}, api.Action{Kind: api.Push, Value: 1}, api.Action{Kind: 6})
	// wrongTests are lists of which no one is right.
	wrongTests = [][]api.Test{{{}}, {from}, {inner, inner}, {from, inner}, {{Field: api.InPort, Value: 1}}, {{Field: api.InPort, Value: 2, Mask: 1}},
		{{Field: 10, Mask: 1}}, {{Field: -1, Mask: 1}}, {inner, {Field: api.Sport, Value: 1, Mask: 1}}}
	// wrongDoings are entries that do what is not right.
	wrongDoings = []api.Entry{{Table: -1}, {Table: 8}, {Table: 256}, {Apply: list(output(0))}, {Write: list(output(0))}, {Apply: pops(33)}, {Write: pops(33)},
		{Meta: 1}, {Meta: 2, MetaMask: 1}, {Meter: -1}, {Meter: 17}, {Goto: -1}, {Goto: 8}, {Table: 2, Goto: 2}, {Table: 2, Goto: 1}}
)

// written are messages, and their bytes' digits.
var written = []struct {
	digits string
	m      Message
}{
	{"04 00 0008 00000001", Message{Kind: Hello, Xid: 1}},
	{"04 14 0008 ffffffff", Message{Kind: Barrier, Xid: 4294967295}},
	{"04 15 0008 01020304", Message{Kind: BarrierBack, Xid: 0x01020304}},
	{"04 01 000c 00000000 0000 0000", Message{Kind: Error}},
	{"04 01 000f 00000007 0102 ffff 616263", Message{Kind: Error, Xid: 7, Type: 258, Code: 65535, Data: "abc"}},
	{"04 02 0008 00000000", Message{Kind: Echo}},
	{"04 02 000a 00000002 00ff", Message{Kind: Echo, Xid: 2, Data: "\x00\xff"}},
	{"04 03 000b 00000003 040000", Message{Kind: EchoBack, Xid: 3, Data: "\x04\x00\x00"}},
	{"04 0c 0050 00000000 02 00000000000000 00000001" + zeroDigits(32) + "00000000" + zeroDigits(24), Message{Kind: PortStatus, Port: 1, Live: true}},
	{"04 0c 0050 00000005 02 00000000000000 00000010" + zeroDigits(32) + "00000001" + zeroDigits(24), Message{Kind: PortStatus, Xid: 5, Port: 16}},
	{"04 0d 0018 00000000 ffffffff 00000000 0000 000000000000", Message{Kind: PacketOut}},
	{"04 0d 0033 00000001 ffffffff 00000010 0018 000000000000" + popDigits + outDigits + "000102", Message{Kind: PacketOut, Xid: 1, Port: 16, Actions: list(pop, output(9)), Data: "\x00\x01\x02"}},
	{"04 0e 0038 00000000" + zeroDigits(16) + "00 00 00000000 0000 ffffffffffffffffffffffff 0000 0000 0001 0004 00000000", Message{Kind: FlowMod}},
	{"04 0e 0080 00000009" + zeroDigits(16) + "03 04 00000000 ffff ffffffffffffffffffffffff 0002 0000" +
		"0001 0016 80000a02 0800 80001708 0a000000 ff000000 0000" +
		"0006 0008 00000010 0004 0018 00000000" + outDigits + "0003 0010 00000000" + popDigits + "0001 0008 07 000000",
		Message{Kind: FlowMod, Xid: 9, Command: 4, Check: true, Entry: api.Entry{Table: 3, Priority: 65535, Tests: []api.Test{inner, from},
			Apply: list(output(9)), Write: list(pop), Meter: 16, Goto: 7}}},
	{"04 0e 0058 00000001" + zeroDigits(16) + "07 01 00000000 0100 ffffffffffffffffffffffff 0000 0000 0001 0004 00000000" +
		"0005 0008 00000000 0002 0018 00000000 0000000000000002 0000000000000006",
		Message{Kind: FlowMod, Xid: 1, Command: 1, Entry: api.Entry{Table: 7, Priority: 256, Clear: true, Meta: 2, MetaMask: 6}}},
	{"04 0f 0010 00000000 0000 00 00 00000001", Message{Kind: GroupMod, Group: group()}},
	{"04 0f 0060 00000003 0002 03 00 0000ffff" +
		"0018 0001 00000002 ffffffff 00000000" + popDigits + emptyBucket +
		"0028 ffff 0000ffff ffffffff 00000000" + outDigits + popDigits,
		Message{Kind: GroupMod, Xid: 3, Command: 2, Group: api.Group{ID: 65535, Kind: api.Failover, Buckets: []api.Bucket{
			{Watch: 2, Weight: 1, Actions: list(pop)}, {}, {Watch: 65535, Weight: 65535, Actions: list(output(9), pop)}}}}},
	{"04 1d 0020 00000000 0000 0005 00000001 00010010 00000000 00000000 00000000", Message{Kind: MeterMod, Meter: Meter{ID: 1}}},
	{"04 1d 0020 00000004 0002 0005 00000010 00010010 ffffffff 01020304 00000000", Message{Kind: MeterMod, Xid: 4, Command: 2, Meter: Meter{ID: 16, Rate: 4294967295, Burst: 0x01020304}}},
}

func zeroDigits(n int) string { return strings.Repeat("00", n) }

// plain is a right message of a Kind, with as little as it may have.
func plain(kind int) Message {
	m := Message{Kind: kind}
	switch kind {
	case PortStatus:
		m.Port = 1
	case GroupMod:
		m.Group = group()
	case MeterMod:
		m.Meter.ID = 1
	}
	return m
}

// checkMessage holds an answer of Encode against the model, and what is right against Decode, whatever is behind it.
func checkMessage(t *testing.T, m Message) {
	t.Helper()
	want, e := slowEncode(m)
	s, got := Encode(m)
	if s != want || got != e {
		t.Errorf("Encode of %+v: %x, %d, not %x, %d", m, s, int(got), want, int(e))
	}
	if e != api.OK {
		return
	}
	for _, behind := range []string{"", "\x00", "\xff", "rest", "\x04\x00\x00\x08\x00\x00\x00\x01", s} {
		checkDecoded(t, want+behind, m, len(want))
	}
}

func checkDecoded(t *testing.T, data string, m Message, n int) {
	t.Helper()
	if d, size, e := Decode(data); !same(d, m) || size != n || e != api.OK {
		t.Errorf("Decode of %x: %+v, %d, %d, not %+v, %d", data, d, size, int(e), m, n)
	}
}

// checkRight says, beside what the model says, whether the message is right.
func checkRight(t *testing.T, m Message, right bool) {
	t.Helper()
	if _, e := Encode(m); (e == api.OK) != right || (e != api.OK && e != api.ErrArg) {
		t.Errorf("Encode of %+v: %d", m, int(e))
	}
	checkMessage(t, m)
}

func TestBytesOfEachKind(t *testing.T) { // P8.1, P8.2, P8.3
	for _, w := range written {
		if s, e := Encode(w.m); s != unhex(w.digits) || e != api.OK {
			t.Errorf("Encode of %+v: %x, %d, not %s", w.m, s, int(e), w.digits)
		}
		checkDecoded(t, unhex(w.digits), w.m, len(unhex(w.digits)))
		checkRight(t, w.m, true)
	}
}

func TestKinds(t *testing.T) { // P8.1
	for _, kind := range kinds {
		checkRight(t, plain(kind), true)
	}
	for kind := -300; kind <= 600; kind++ {
		checkRight(t, Message{Kind: kind}, slices.Contains([]int{Hello, Error, Echo, EchoBack, PacketOut, FlowMod, Barrier, BarrierBack}, kind))
	}
	for _, kind := range kinds {
		for _, far := range []int{1 << 8, 1 << 16, 1 << 32, 1 << 40, math.MinInt} {
			m := plain(kind)
			m.Kind += far
			checkRight(t, m, false)
		}
	}
}

func TestXid(t *testing.T) { // P8.1
	for _, w := range written {
		for xid, right := range map[int]bool{math.MinInt: false, -1 << 32: false, -1: false, 0: true, 1: true, 65536: true, 1 << 31: true,
			4294967294: true, 4294967295: true, 4294967296: false, 4294967297: false, 1 << 40: false, math.MaxInt: false} {
			w.m.Xid = xid
			checkRight(t, w.m, right)
		}
	}
}

// numbers are those that a Kind has, with their least and their greatest values.
var numbers = []struct {
	kinds       []int
	least, most int
	at          func(m *Message) *int
}{
	{[]int{Error}, 0, 65535, func(m *Message) *int { return &m.Type }},
	{[]int{Error}, 0, 65535, func(m *Message) *int { return &m.Code }},
	{[]int{PortStatus}, 1, 16, func(m *Message) *int { return &m.Port }},
	{[]int{PacketOut}, 0, 16, func(m *Message) *int { return &m.Port }},
	{[]int{FlowMod}, 0, 4, func(m *Message) *int { return &m.Command }},
	{[]int{FlowMod}, 0, 65535, func(m *Message) *int { return &m.Entry.Priority }},
	{[]int{FlowMod}, 0, 7, func(m *Message) *int { return &m.Entry.Table }},
	{[]int{FlowMod}, 0, 16, func(m *Message) *int { return &m.Entry.Meter }},
	{[]int{FlowMod}, 0, 7, func(m *Message) *int { return &m.Entry.Goto }},
	{[]int{GroupMod, MeterMod}, 0, 2, func(m *Message) *int { return &m.Command }},
	{[]int{GroupMod}, 1, 65535, func(m *Message) *int { return &m.Group.ID }},
	{[]int{GroupMod}, 1, 4, func(m *Message) *int { return &m.Group.Kind }},
	{[]int{MeterMod}, 1, 16, func(m *Message) *int { return &m.Meter.ID }},
	{[]int{MeterMod}, 0, 4294967295, func(m *Message) *int { return &m.Meter.Rate }},
	{[]int{MeterMod}, 0, 4294967295, func(m *Message) *int { return &m.Meter.Burst }},
}

func TestNumbers(t *testing.T) { // P8.1
	for _, c := range numbers {
		for _, kind := range c.kinds {
			for _, n := range []int{c.least, c.least + 1, (c.least + c.most) / 2, c.most - 1, c.most} {
				m := plain(kind)
				*c.at(&m) = n
				checkRight(t, m, true)
			}
			for _, n := range []int{c.least - 1, c.most + 1, c.least - 2, c.most + 2, c.least + 256<<32, c.most - 1<<33, math.MinInt, math.MaxInt} {
				m := plain(kind)
				*c.at(&m) = n
				checkRight(t, m, false)
			}
		}
	}
}

// P8.1: numbers of buckets, wherever the bucket stands.
func TestNumbersOfBuckets(t *testing.T) {
	for place := range 16 {
		for _, at := range []func(b *api.Bucket) *int{
			func(b *api.Bucket) *int { return &b.Watch },
			func(b *api.Bucket) *int { return &b.Weight },
		} {
			for n, right := range map[int]bool{math.MinInt: false, -65536: false, -1: false, 0: true, 1: true, 256: true, 65534: true, 65535: true,
				65536: false, 65537: false, 1<<32 - 1: false, 1 << 32: false, math.MaxInt: false} {
				l := make([]api.Bucket, 16)
				*at(&l[place]) = n
				checkRight(t, groupOf(l...), right)
				checkRight(t, groupOf(l[:place+1]...), right)
			}
		}
	}
}

// others are things one by one, none of them empty, each with the word of what it is in.
var others = []struct {
	word string
	set  func(m *Message)
}{
	{"Command", func(m *Message) { m.Command = 1 }},
	{"Command", func(m *Message) { m.Command = -1 }},
	{"Check", func(m *Message) { m.Check = true }},
	{"Entry", func(m *Message) { m.Entry.Table = 1 }},
	{"Entry", func(m *Message) { m.Entry.Table = -1 }},
	{"Entry", func(m *Message) { m.Entry.Priority = 1 }},
	{"Entry", func(m *Message) { m.Entry.Priority = -1 }},
	{"Entry", func(m *Message) { m.Entry.Tests = []api.Test{{}} }},
	{"Entry", func(m *Message) { m.Entry.Tests = []api.Test{inner} }},
	{"Entry", func(m *Message) { m.Entry.Apply = list(pop) }},
	{"Entry", func(m *Message) { m.Entry.Apply = list(api.Action{}) }},
	{"Entry", func(m *Message) { m.Entry.Write = list(pop) }},
	{"Entry", func(m *Message) { m.Entry.Write = list(api.Action{}) }},
	{"Entry", func(m *Message) { m.Entry.Clear = true }},
	{"Entry", func(m *Message) { m.Entry.Meta = 1 }},
	{"Entry", func(m *Message) { m.Entry.MetaMask = 1 << 63 }},
	{"Entry", func(m *Message) { m.Entry.Meter = 1 }},
	{"Entry", func(m *Message) { m.Entry.Goto = 1 }},
	{"Group", func(m *Message) { m.Group.ID = 2 }},
	{"Group", func(m *Message) { m.Group.ID = -1 }},
	{"Group", func(m *Message) { m.Group.Kind = api.Select }},
	{"Group", func(m *Message) { m.Group.Kind = -1 }},
	{"Group", func(m *Message) { m.Group.Buckets = []api.Bucket{{}} }},
	{"Group", func(m *Message) { m.Group.Buckets = []api.Bucket{{Watch: 1}} }},
	{"Group", func(m *Message) { m.Group.Buckets = []api.Bucket{{Weight: 1}} }},
	{"Group", func(m *Message) { m.Group.Buckets = []api.Bucket{{Actions: list(pop)}} }},
	{"Meter", func(m *Message) { m.Meter.ID = 2 }},
	{"Meter", func(m *Message) { m.Meter.Rate = 1 }},
	{"Meter", func(m *Message) { m.Meter.Rate = -1 }},
	{"Meter", func(m *Message) { m.Meter.Burst = 1 << 40 }},
	{"Type", func(m *Message) { m.Type = 1 }},
	{"Type", func(m *Message) { m.Type = -1 }},
	{"Code", func(m *Message) { m.Code = 1 }},
	{"Code", func(m *Message) { m.Code = 65536 }},
	{"Port", func(m *Message) { m.Port = 1 }},
	{"Port", func(m *Message) { m.Port = -1 }},
	{"Live", func(m *Message) { m.Live = true }},
	{"Actions", func(m *Message) { m.Actions = list(pop) }},
	{"Actions", func(m *Message) { m.Actions = list(api.Action{}) }},
	{"Data", func(m *Message) { m.Data = "\x00" }},
}

// P8.1: what a Kind has not may not be there, whatever else the message has.
func TestNothingElse(t *testing.T) {
	for _, kind := range kinds {
		var messages []Message
		messages = append(messages, plain(kind))
		for _, w := range written {
			if w.m.Kind == kind {
				messages = append(messages, w.m)
			}
		}
		for _, o := range others {
			own := slices.Contains(strings.Fields(owns[kind]), o.word)
			for _, m := range messages {
				o.set(&m)
				checkMessage(t, m)
				if _, e := Encode(m); e == api.OK && !own {
					t.Errorf("Encode of %+v: %d", m, int(e))
				}
			}
		}
	}
}

// P8.1, R2: a list without elements is empty, nil or not.
func TestEmptyLists(t *testing.T) {
	for _, kind := range kinds {
		m := plain(kind)
		m.Actions = list()
		m.Entry = api.Entry{Tests: []api.Test{}, Apply: list(), Write: list()}
		m.Group.Buckets = []api.Bucket{}
		checkRight(t, m, true)
	}
	checkRight(t, groupOf(api.Bucket{Actions: list()}), true)
	checkRight(t, Message{Kind: Hello, Group: api.Group{Buckets: []api.Bucket{{Actions: list()}}}}, false)
}

func TestDataSizes(t *testing.T) { // P8.1, P8.2
	for kind, most := range map[int]int{Error: 64, Echo: 1000, EchoBack: 1000, PacketOut: 1500} {
		for _, n := range []int{0, 1, 2, 7, 8, most - 1, most, most + 1, most + 2, 2 * most, 65527, 65528, 65536, 65544} {
			for _, b := range []string{"\x00", "x", "\xff"} {
				m := Message{Kind: kind, Data: strings.Repeat(b, n)}
				checkRight(t, m, n <= most)
			}
		}
	}
	checkRight(t, Message{Kind: PacketOut, Xid: 4294967295, Port: 16, Actions: slices.Repeat(list(output(1)), 32), Data: strings.Repeat("d", 1500)}, true)
	checkRight(t, Message{Kind: PacketOut, Actions: slices.Repeat(list(output(1)), 32), Data: strings.Repeat("d", 1501)}, false)
}

func TestActionsOfPackets(t *testing.T) { // P8.1
	for _, n := range []int{0, 1, 8, 9, 31, 32, 33, 34, 64, 256, 288, 8192} {
		checkRight(t, packetOf(pops(n)...), n <= 32)
		checkRight(t, packetOf(slices.Repeat(list(output(4294967295)), n)...), n <= 32)
	}
	for _, a := range wrongActions {
		checkRight(t, packetOf(a), false)
		checkRight(t, packetOf(pop, a), false)
		checkRight(t, packetOf(a, pop), false)
		checkRight(t, packetOf(append(pops(31), a)...), false)
		checkRight(t, packetOf(append(pops(32), a)...), false)
	}
}

func TestActionsOfBuckets(t *testing.T) { // P8.1
	for place := range 16 {
		for _, n := range []int{0, 1, 7, 8, 9, 10, 16, 32, 33, 256, 264} {
			l := make([]api.Bucket, 16)
			l[place].Actions = pops(n)
			checkRight(t, groupOf(l...), n <= 8)
			checkRight(t, groupOf(l[place]), n <= 8)
		}
		for _, a := range wrongActions {
			l := make([]api.Bucket, 16)
			l[place].Actions = list(pop, a)
			checkRight(t, groupOf(l...), false)
			l[place].Actions = append(pops(8), a)
			checkRight(t, groupOf(l...), false)
		}
	}
}

func TestHowManyBuckets(t *testing.T) { // P8.1
	full := api.Bucket{Watch: 65535, Weight: 65535, Actions: slices.Repeat(list(output(4294967295)), 8)}
	for n := range 40 {
		checkRight(t, groupOf(make([]api.Bucket, n)...), n <= 16)
		checkRight(t, groupOf(slices.Repeat([]api.Bucket{full}, n)...), n <= 16)
	}
	checkRight(t, groupOf(make([]api.Bucket, 256)...), false)
	checkRight(t, groupOf(make([]api.Bucket, 4095)...), false)
	for kind := range 7 {
		for _, command := range []int{-1, 0, 1, 2, 3} {
			m := Message{Kind: GroupMod, Command: command, Group: api.Group{ID: 9, Kind: kind}}
			checkRight(t, m, kind >= 1 && kind <= 4 && command >= 0 && command <= 2)
		}
	}
}

func TestEntries(t *testing.T) { // P8.1
	for _, tests := range wrongTests {
		checkRight(t, flow(api.Entry{Tests: tests}), false)
		checkRight(t, flow(api.Entry{Tests: tests, Apply: list(pop), Goto: 1}), false)
	}
	for _, x := range wrongDoings {
		checkRight(t, flow(x), false)
		x.Tests = []api.Test{inner}
		x.Priority = 7
		checkRight(t, flow(x), false)
	}
	web := api.Test{Field: api.Proto, Value: 6, Mask: 0xff}
	all := []api.Test{{Field: api.InPort, Value: 1, Mask: 1<<32 - 1}, {Field: api.Meta, Value: 2, Mask: 2}, {Field: api.Vlan, Value: 4096, Mask: 0x1fff}, inner, from,
		{Field: api.Dst, Value: 1, Mask: 1<<32 - 1}, web, {Field: api.Sport, Value: 1, Mask: 1}, {Field: api.Dport, Value: 80, Mask: 0xffff}}
	outs := slices.Repeat(list(output(9)), 32)
	for n := range len(all) + 1 {
		for table := range 7 {
			checkMessage(t, Message{Kind: FlowMod, Xid: n, Command: n % 5, Check: n%2 == 0, Entry: api.Entry{Table: table, Priority: n * 7000, Tests: all[:n],
				Apply: outs, Write: outs, Clear: true, Meta: math.MaxUint64, MetaMask: math.MaxUint64, Meter: 16, Goto: 7}})
		}
	}
	for command := -1; command < 6; command++ {
		for _, check := range []bool{false, true} {
			checkRight(t, Message{Kind: FlowMod, Command: command, Check: check, Entry: api.Entry{Tests: []api.Test{inner, from}}}, command >= 0 && command <= 4)
		}
	}
}

// anyMessage is right most often.
func anyMessage(r *rand.Rand) Message {
	m := Message{Kind: kinds[r.Intn(len(kinds))], Xid: int(r.Uint32())}
	for _, word := range strings.Fields(owns[m.Kind]) {
		switch word {
		case "Type":
			m.Type = r.Intn(65536)
		case "Code":
			m.Code = r.Intn(65536)
		case "Port":
			m.Port = 1 + r.Intn(16)
		case "Live":
			m.Live = r.Intn(2) == 0
		case "Check":
			m.Check = r.Intn(2) == 0
		case "Command":
			m.Command = r.Intn(3)
		case "Actions":
			m.Actions = anyActions(r, 33)
		case "Data":
			m.Data = anyText(r, r.Intn(66))
		case "Entry":
			m.Entry = anyEntry(r)
		case "Group":
			m.Group = anyGroup(r)
		case "Meter":
			m.Meter = Meter{ID: 1 + r.Intn(16), Rate: int(r.Uint32()), Burst: int(r.Uint32())}
		}
	}
	if r.Intn(8) == 0 {
		others[r.Intn(len(others))].set(&m)
	}
	return m
}

func anyText(r *rand.Rand, n int) string {
	b := make([]byte, n)
	r.Read(b)
	return string(b)
}

func anyActions(r *rand.Rand, most int) []api.Action {
	var l []api.Action
	for range r.Intn(most+1) >> r.Intn(4) {
		l = append(l, []api.Action{pop, output(uint64(1 + r.Intn(1000))), {Kind: api.Push}, {Kind: api.ToGroup, Value: 5}, {Kind: api.Set, Field: api.Dst, Value: 6}}[r.Intn(5)])
	}
	if len(l) > 0 && r.Intn(30) == 0 {
		l[r.Intn(len(l))] = wrongActions[r.Intn(len(wrongActions))]
	}
	return l
}

func anyEntry(r *rand.Rand) api.Entry {
	if r.Intn(20) == 0 {
		return wrongDoings[r.Intn(len(wrongDoings))]
	}
	x := api.Entry{Table: r.Intn(4), Priority: r.Intn(65536), Apply: anyActions(r, 32), Write: anyActions(r, 32), Clear: r.Intn(2) == 0,
		MetaMask: r.Uint64(), Meter: r.Intn(17), Tests: []api.Test{inner, from}[:r.Intn(3)]}
	x.Meta = x.MetaMask & r.Uint64()
	if r.Intn(2) == 0 {
		x.Goto = 4 + r.Intn(4)
	}
	if r.Intn(20) == 0 {
		x.Tests = wrongTests[r.Intn(len(wrongTests))]
	}
	return x
}

func anyGroup(r *rand.Rand) api.Group {
	g := api.Group{ID: 1 + r.Intn(65535), Kind: 1 + r.Intn(4)}
	for range r.Intn(18) >> r.Intn(4) {
		g.Buckets = append(g.Buckets, api.Bucket{Watch: r.Intn(3) * r.Intn(32768), Weight: r.Intn(65536), Actions: anyActions(r, 8)})
	}
	return g
}

func TestEncodeModel(t *testing.T) { // P8.1, P8.3
	r := rand.New(rand.NewSource(1))
	for range 20000 {
		checkMessage(t, anyMessage(r))
	}
}
