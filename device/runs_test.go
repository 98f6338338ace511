package device

import (
	"fmt"
	"math/rand"
	"slices"
	"strings"
	"testing"

	"drover/api"
	"drover/pipe"
	"drover/wire"
)

func one[T any](r *rand.Rand, l ...T) T { return l[r.Intn(len(l))] }

func anyFrame(t *testing.T, r *rand.Rand) string {
	t.Helper()
	p := one(r, plain(), inner(), inner())
	p.Vlan = one(r, 0, 0, 4096, 4100)
	s := frameOf(t, p)
	if r.Intn(6) == 0 {
		return s[:r.Intn(len(s))]
	}
	return s
}

// anyAction leads to groups that may not be there.
func anyAction(r *rand.Rand) api.Action {
	switch n := r.Intn(10); {
	case n < 4:
		return output(uint64(one(r, 1, 2, 2, 3, 4, 5, 17, back)))
	case n < 7:
		return to(uint64(one(r, 1, 1, 2, 2, 3, 4, 5)))
	}
	return one(r, push, pop, set(api.Vlan, 4100), set(api.Src, uint64(r.Intn(3))), set(api.Dport, 80))
}

func anyActions(r *rand.Rand, most int) []api.Action {
	var l []api.Action
	for range r.Intn(most + 1) {
		l = append(l, anyAction(r))
	}
	return l
}

func anyTests(r *rand.Rand) []api.Test {
	meta := api.Test{Field: api.Meta, Value: uint64(r.Intn(2)), Mask: 1}
	return one(r, nil, nil, []api.Test{inPort(uint64(1 + r.Intn(2)))}, []api.Test{meta}, []api.Test{inPort(1), meta},
		[]api.Test{{Field: api.EthType, Value: 0x0800, Mask: 0xffff}, {Field: api.Src, Value: uint64(r.Intn(2)), Mask: 1}})
}

func anyEntry(r *rand.Rand) api.Entry {
	x := api.Entry{Table: one(r, 0, 0, 0, 1, 7), Priority: r.Intn(3), Tests: anyTests(r), Clear: r.Intn(4) == 0}
	x.Apply, x.Write = anyActions(r, one(r, 0, 0, 3)), anyActions(r, one(r, 1, 3))
	x.MetaMask = uint64(r.Intn(4))
	x.Meta = x.MetaMask & uint64(r.Intn(4))
	x.Meter = one(r, 0, 0, 0, 1, 2, 16)
	if x.Table < 7 && r.Intn(3) == 0 {
		x.Goto = one(r, x.Table+1, 7)
	}
	return x
}

func anyGroup(r *rand.Rand) api.Group {
	g := api.Group{ID: one(r, 1, 1, 2, 2, 3, 4, 5), Kind: one(r, api.All, api.Select, api.Indirect, api.Failover)}
	n := r.Intn(4)
	if g.Kind == api.Indirect && r.Intn(4) > 0 {
		n = 1
	}
	for range n {
		b := api.Bucket{Watch: one(r, 1, 2, 3, 4), Weight: r.Intn(3), Actions: list(output(uint64(1 + r.Intn(4))))}
		if r.Intn(4) == 0 {
			b.Actions = list(push, to(uint64(1+r.Intn(4))))
		}
		if r.Intn(6) == 0 {
			b.Watch = one(r, 0, 16, 17, 65535)
		}
		g.Buckets = append(g.Buckets, b)
	}
	return g
}

// anyMessage is right.
func anyMessage(t *testing.T, r *rand.Rand) wire.Message {
	t.Helper()
	m := wire.Message{Xid: one(r, 0, 7, r.Intn(1<<32), 1<<32-1)}
	switch n := r.Intn(30); {
	case n < 3:
		m.Kind = one(r, wire.Hello, wire.Barrier, wire.BarrierBack)
	case n < 4:
		m.Kind, m.Type, m.Code, m.Data = wire.Error, r.Intn(9), r.Intn(9), strings.Repeat("e", r.Intn(65))
	case n < 6:
		m.Kind, m.Data = one(r, wire.Echo, wire.Echo, wire.EchoBack), strings.Repeat("e", one(r, 0, 1, 55, 56, 57, 1000))
	case n < 7:
		m.Kind, m.Port, m.Live = wire.PortStatus, 1+r.Intn(16), r.Intn(2) == 0
	case n < 11:
		m.Kind, m.Port, m.Actions, m.Data = wire.PacketOut, r.Intn(6), anyActions(r, 5), anyFrame(t, r)
	case n < 19:
		m.Kind, m.Command, m.Check, m.Entry = wire.FlowMod, one(r, 0, 0, 0, 0, 0, 0, 1, 2, 3, 4, 4), r.Intn(3) == 0, anyEntry(r)
	case n < 26:
		m.Kind, m.Command, m.Group = wire.GroupMod, one(r, 0, 0, 0, 0, 1, 1, 2), anyGroup(r)
	default:
		m.Kind, m.Command, m.Meter = wire.MeterMod, one(r, 0, 0, 1, 2), wire.Meter{ID: one(r, 1, 2, 16), Rate: r.Intn(20), Burst: one(r, 0, 20, 200)}
	}
	return m
}

// anyBytes are those of a message, or such that are passed over; none are forgotten.
func anyBytes(t *testing.T, r *rand.Rand) string {
	t.Helper()
	s := say(t, anyMessage(t, r))
	switch r.Intn(12) {
	case 0:
		size := one(r, 8, 9, 63, 64, 65, 200)
		return head(one(r, 4, 30, 99, 255), size, r.Intn(1<<32)) + strings.Repeat("y", size-8)
	case 1:
		b := []byte(s) // its first byte and its length stay
		i := one(r, 1, 4+r.Intn(len(b)-4))
		b[i] ^= byte(1 + r.Intn(255))
		return string(b)
	}
	return s
}

// seen counts what came, so that no part of the words is left out by chance.
type seen map[string]int

func (n seen) note(d *Device, answers []string, l []pipe.Out) {
	for _, s := range answers {
		switch s[1] {
		case 1:
			n[fmt.Sprintf("%d/%d", s[9], s[11])]++
		default:
			n[fmt.Sprint("Kind ", s[1])]++
		}
	}
	if len(l) > 0 {
		n["Outs"]++
	}
	if len(d.flows.List(0)) > 1 && len(d.groups.List()) > 1 && d.hasMeter(1) {
		n["much in it"]++
	}
}

func (n seen) check(t *testing.T, least int) {
	t.Helper()
	for _, what := range []string{"Kind 3", "Kind 21", "1/0", "1/1", "2/9", "5/1", "5/3", "6/0", "6/1", "6/3", "6/7", "6/8", "12/2", "12/3", "Outs", "much in it"} {
		if n[what] < least {
			t.Errorf("%s: %d times alone", what, n[what])
		}
	}
}

// checkAsModel holds what can be seen of a switch against the model.
func checkAsModel(t *testing.T, what string, d *Device, m *model) {
	t.Helper()
	if got, want := d.State(), m.state(t); got != want {
		t.Errorf("%s: %x, not %x", what, got, want)
	}
	if got, want := left(d), m.left(); !slices.Equal(got, want) {
		t.Errorf("%s: %v are left, not %v", what, got, want)
	}
}

// handleBoth hands bytes in to both.
func handleBoth(t *testing.T, d *Device, m *model, data string, n seen) {
	t.Helper()
	before := inside(d)
	answers, l := d.Handle(data)
	m.handle(t, data)
	if !slices.Equal(answers, m.answers) {
		t.Errorf("Handle of %x: answers %x, not %x", data, answers, m.answers)
	}
	checkOuts(t, "Handle", l, m.outs)
	checkAsModel(t, "Handle", d, m)
	n.note(d, answers, l)
	// P13.5: with a refusal alone nothing changes.
	alone := len(answers) == 1 && answers[0][1] == 1 && strings.HasPrefix(data, answers[0][12:]) && len(data) == int(data[2])<<8+int(data[3])
	if alone && m.forgot == 0 {
		n["alone"]++
		if now := inside(d); now != before || len(l) > 0 {
			t.Errorf("refused, and %s, not %s", now, before)
		}
	}
}

// anyCall is one of the other calls.
func anyCall(t *testing.T, r *rand.Rand, d *Device, m *model, n seen) {
	t.Helper()
	switch r.Intn(6) {
	case 0:
		port, live := one(r, 1, 2, 3, 4, 5, 0, 17, -1), r.Intn(3) > 0
		if got, want := d.Port(port, live), m.port(port, live); got != want {
			t.Errorf("Port(%d, %v): %x, not %x", port, live, got, want)
		}
	case 1:
		ticks := one(r, 0, 1, 2, 5, -1, 1<<63-1)
		d.Tick(ticks)
		m.tick(ticks)
	default:
		port, s, pick := one(r, 1, 1, 2, 3, 4, 5, 0, -1), anyFrame(t, r), r.Intn(9)-4
		got, want := d.Receive(port, s, pick), m.receive(t, port, s, pick)
		checkOuts(t, "Receive", got, want)
		if len(want) > 0 {
			n["Receive"]++
		}
	}
	checkAsModel(t, "another call", d, m)
}

// P13.1 to P13.5: many calls do as the words say.
func TestManyCallsGoAsTheWordsSay(t *testing.T) {
	r := rand.New(rand.NewSource(13))
	n := seen{}
	for range 50 {
		ports, flows, groups := one(r, 1, 3, 4, 4, 16), one(r, 1, 2, 4, 8), one(r, 1, 3, 4, 5)
		d, m := device(t, ports, flows, groups), newModel(ports, flows, groups)
		for range 500 {
			if r.Intn(3) == 0 {
				anyCall(t, r, d, m, n)
				continue
			}
			m.forgot = 0
			data := anyBytes(t, r)
			switch r.Intn(12) {
			case 0: // several at once
				data += anyBytes(t, r) + anyBytes(t, r)
			case 1: // two parts
				i := r.Intn(len(data))
				handleBoth(t, d, m, data[:i], n)
				data = data[i:]
			case 2: // one that makes all be forgotten
				bad := one(r, head(20, r.Intn(8), 3), "\x03"+data[1:])
				data = anyBytes(t, r) + bad + data
			}
			handleBoth(t, d, m, data, n)
			n["forgotten"] += m.forgot
		}
		if t.Failed() {
			return
		}
	}
	n.check(t, 20)
	for _, what := range []string{"alone", "Receive", "forgotten"} {
		if n[what] < 100 {
			t.Errorf("%s: %d times alone", what, n[what])
		}
	}
}

// cut is bytes in parts, some of them empty or of one byte.
func cut(r *rand.Rand, data string) []string {
	var l []string
	for most := one(r, 1, 2, 9, 60, 500); data != ""; {
		n := min(len(data), r.Intn(most+1))
		l, data = append(l, data[:n]), data[n:]
	}
	return l
}

// P13.5: however bytes are cut, as long as none are forgotten, the same answers come, and the same State is there.
func TestManyCuts(t *testing.T) {
	r := rand.New(rand.NewSource(135))
	n := seen{}
	for range 100 {
		flows, groups := one(r, 1, 2, 4, 8), one(r, 1, 3, 5)
		var data strings.Builder
		for range 120 {
			data.WriteString(anyBytes(t, r))
		}
		whole, m := device(t, 4, flows, groups), newModel(4, flows, groups)
		want, leave := whole.Handle(data.String())
		m.handle(t, data.String())
		n.note(whole, want, leave)
		if !slices.Equal(want, m.answers) || m.forgot > 0 {
			t.Fatalf("%x, not %x", want, m.answers)
		}
		checkOuts(t, "at once", leave, m.outs)
		checkAsModel(t, "at once", whole, m)
		for range 4 {
			d := device(t, 4, flows, groups)
			var answers []string
			var l []pipe.Out
			for _, part := range cut(r, data.String()) {
				a, o := d.Handle(part)
				answers, l = append(answers, a...), append(l, o...)
			}
			if !slices.Equal(answers, want) || inside(d) != inside(whole) {
				t.Fatalf("%x, not %x; %s, not %s", answers, want, inside(d), inside(whole))
			}
			checkOuts(t, "cut", l, leave)
		}
	}
	n.check(t, 10)
}

// R1: Handle ends, and does not panic, whatever bytes come.
func TestAnyBytesAtAll(t *testing.T) {
	r := rand.New(rand.NewSource(131))
	for range 200 {
		d, m := device(t, 4, 2, 2), newModel(4, 2, 2)
		for range 20 {
			b := make([]byte, r.Intn(40))
			for i := range b {
				b[i] = byte(one(r, 0, 4, 8, 12, 20, r.Intn(256)))
			}
			s := string(b)
			if r.Intn(2) == 0 {
				s = "\x04" + string(rune(r.Intn(30))) + "\x00" + string(rune(8+r.Intn(30))) + s
			}
			answers, l := d.Handle(s)
			m.handle(t, s)
			if !slices.Equal(answers, m.answers) || d.rest != string(m.came) {
				t.Fatalf("%x: %x, not %x; %x is kept, not %x", s, answers, m.answers, d.rest, m.came)
			}
			checkOuts(t, "any bytes", l, m.outs)
		}
		checkAsModel(t, "any bytes", d, m)
	}
}
