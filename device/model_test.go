package device

import (
	"cmp"
	"maps"
	"slices"
	"testing"

	"drover/api"
	"drover/field"
	"drover/frame"
	"drover/group"
	"drover/match"
	"drover/meter"
	"drover/pipe"
	"drover/table"
	"drover/wire"
)

// The model: the chapter's words, with the numbers written out. It takes its bytes one by one, keeps plain lists of what it has, and makes of them what a packet goes through anew for each packet.

type model struct {
	ports, flows, groups int
	dead                 map[int]int // ports, with how often they died
	entries              []api.Entry // by when they were put
	byID                 map[int]api.Group
	meters               map[int]wire.Meter
	buckets              map[int]*meter.Bucket
	came                 []byte // of the message that is coming
	answers              []string
	outs                 []pipe.Out
	forgot               int // how often all bytes were forgotten
}

func newModel(ports, flows, groups int) *model {
	return &model{ports: ports, flows: flows, groups: groups, dead: map[int]int{}, byID: map[int]api.Group{}, meters: map[int]wire.Meter{}, buckets: map[int]*meter.Bucket{}}
}

// handle leaves its answers and Outs in the model.
func (m *model) handle(t *testing.T, data string) {
	t.Helper()
	m.answers, m.outs = nil, nil
	for _, b := range []byte(data) {
		m.came = append(m.came, b)
		if len(m.came) < 8 {
			continue
		}
		size := 256*int(m.came[2]) + int(m.came[3])
		if m.came[0] != 4 || size < 8 {
			m.came = nil
			m.forgot++
			return
		}
		if len(m.came) == size {
			m.message(t, string(m.came))
			m.came = nil
		}
	}
}

func (m *model) message(t *testing.T, s string) {
	t.Helper()
	x, _, e := wire.Decode(s)
	kind, code := 0, 0
	switch {
	case e != api.OK:
		x.Xid = ((int(s[4])*256+int(s[5]))*256+int(s[6]))*256 + int(s[7])
		kind = 1
	case x.Kind == 2:
		m.answers = append(m.answers, head(3, 8+len(x.Data), x.Xid)+x.Data)
	case x.Kind == 20:
		m.answers = append(m.answers, head(21, 8, x.Xid))
	case x.Kind == 3, x.Kind == 21, x.Kind == 12:
		kind, code = 1, 1
	case x.Kind == 13:
		p, e := frame.Parse(x.Data)
		if e != api.OK {
			kind = 1
			break
		}
		l, _ := pipe.Act(m.parts(t), field.Seen{In: x.Port, P: p}, x.Actions, 0)
		m.outs = append(m.outs, l...)
	case x.Kind == 14:
		kind, code = m.flowMod(x.Command, x.Entry, x.Check)
	case x.Kind == 15:
		kind, code = m.groupMod(x.Command, x.Group)
	case x.Kind == 29:
		kind, code = m.meterMod(x.Command, x.Meter)
	}
	if kind != 0 {
		m.answers = append(m.answers, refused(x.Xid, kind, code, s))
	}
}

// ids are the numbers that ToGroup actions have.
func ids(l ...api.Action) []int {
	var n []int
	for _, a := range l {
		if a.Kind == 2 {
			n = append(n, int(a.Value))
		}
	}
	return n
}

func (m *model) hasGroups(l []int) bool {
	for _, id := range l {
		if _, is := m.byID[id]; !is {
			return false
		}
	}
	return true
}

func (m *model) flowMod(command int, x api.Entry, check bool) (int, int) {
	if command < 3 {
		if _, is := m.meters[x.Meter]; x.Meter > 0 && !is {
			return 12, 3
		}
		if !m.hasGroups(ids(x.Apply...)) || !m.hasGroups(ids(x.Write...)) {
			return 2, 9
		}
	}
	if command == 0 {
		return m.add(x, check)
	}
	var stay []api.Entry
	for _, y := range m.entries {
		meant := y.Table == x.Table && match.Covers(x.Tests, y.Tests)
		if command == 2 || command == 4 {
			meant = y.Table == x.Table && y.Priority == x.Priority && match.Same(x.Tests, y.Tests)
		}
		switch {
		case meant && command < 3:
			z := x
			z.Priority, z.Tests = y.Priority, y.Tests
			stay = append(stay, z)
		case !meant:
			stay = append(stay, y)
		}
	}
	m.entries = stay
	return 0, 0
}

func (m *model) add(x api.Entry, check bool) (int, int) {
	place, many := -1, 0
	for i, y := range m.entries {
		if y.Table != x.Table {
			continue
		}
		many++
		if y.Priority != x.Priority {
			continue
		}
		if check && match.Meets(x.Tests, y.Tests) {
			return 5, 3
		}
		if match.Same(x.Tests, y.Tests) {
			place = i
		}
	}
	switch {
	case place >= 0:
		m.entries[place] = x
	case many == m.flows:
		return 5, 1
	default:
		m.entries = append(m.entries, x)
	}
	return 0, 0
}

// leads are the numbers of the groups that one leads to.
func leads(g api.Group) []int {
	var l []int
	for _, b := range g.Buckets {
		l = append(l, ids(b.Actions...)...)
	}
	return l
}

// comes is whether one comes from a group to a number, in any number of steps.
func (m *model) comes(from api.Group, id int) bool {
	for _, next := range leads(from) {
		if next == id || m.comes(m.byID[next], id) {
			return true
		}
	}
	return false
}

// rightGroup is of one that a message may have.
func rightGroup(g api.Group) bool {
	for _, b := range g.Buckets {
		if b.Watch > 16 || g.Kind == 4 && b.Watch == 0 {
			return false
		}
	}
	return g.Kind != 3 || len(g.Buckets) == 1
}

func (m *model) groupMod(command int, g api.Group) (int, int) {
	is := m.hasGroups([]int{g.ID})
	switch {
	case command < 2 && !rightGroup(g):
		return 6, 1
	case command == 0 && is:
		return 6, 0
	case command > 0 && !is, command < 2 && !m.hasGroups(leads(g)):
		return 6, 8
	case command == 0 && len(m.byID) == m.groups:
		return 6, 3
	case command == 1 && m.comes(g, g.ID):
		return 6, 7
	case command < 2:
		m.byID[g.ID] = g
		return 0, 0
	}
	for _, other := range m.byID {
		if slices.Contains(leads(other), g.ID) {
			return 6, 7
		}
	}
	delete(m.byID, g.ID)
	m.keep(func(x api.Entry) bool { return !slices.Contains(ids(slices.Concat(x.Apply, x.Write)...), g.ID) })
	return 0, 0
}

func (m *model) meterMod(command int, x wire.Meter) (int, int) {
	_, is := m.meters[x.ID]
	switch {
	case is && command == 0:
		return 12, 2
	case !is && command > 0:
		return 12, 3
	}
	delete(m.meters, x.ID)
	delete(m.buckets, x.ID)
	if command == 2 {
		m.keep(func(y api.Entry) bool { return y.Meter != x.ID })
		return 0, 0
	}
	m.meters[x.ID] = x
	m.buckets[x.ID], _ = meter.New(x.Rate, x.Burst)
	return 0, 0
}

func (m *model) keep(stays func(x api.Entry) bool) {
	var l []api.Entry
	for _, x := range m.entries {
		if stays(x) {
			l = append(l, x)
		}
	}
	m.entries = l
}

// parts are new, but for the meters.
func (m *model) parts(t *testing.T) pipe.Parts {
	t.Helper()
	x := pipe.Parts{Meters: make([]*meter.Bucket, 17), Live: make([]bool, m.ports+1)}
	x.Flows, _ = table.New(256)
	for _, y := range m.entries {
		if e := x.Flows.Add(y, false); e != api.OK {
			t.Fatal(int(e))
		}
	}
	x.Groups, _ = group.New(64)
	for len(x.Groups.List()) < len(m.byID) { // those that others lead to are first
		for _, g := range m.byID {
			x.Groups.Add(g)
		}
	}
	for id, b := range m.buckets {
		x.Meters[id] = b
	}
	for port := range m.ports {
		x.Live[port+1] = m.dead[port+1] == 0
	}
	return x
}

func (m *model) receive(t *testing.T, port int, data string, pick int) []pipe.Out {
	t.Helper()
	p, e := frame.Parse(data)
	if port < 1 || port > m.ports || m.dead[port] > 0 || e != api.OK {
		return nil
	}
	return pipe.Run(m.parts(t), field.Seen{In: port, P: p}, pick)
}

func (m *model) port(port int, live bool) string {
	if port < 1 || port > m.ports || live == (m.dead[port] == 0) {
		return ""
	}
	if live {
		delete(m.dead, port)
	} else {
		m.dead[port] = 1
	}
	return portStatus(port, live)
}

func (m *model) tick(ticks int) {
	for _, b := range m.buckets {
		b.Tick(ticks)
	}
}

func (m *model) state(t *testing.T) string {
	t.Helper()
	s := ""
	for _, id := range slices.Sorted(maps.Keys(m.meters)) {
		s += say(t, wire.Message{Kind: 29, Meter: m.meters[id]})
	}
	for _, id := range slices.Sorted(maps.Keys(m.byID)) {
		s += say(t, wire.Message{Kind: 15, Group: m.byID[id]})
	}
	l := slices.Clone(m.entries)
	slices.SortStableFunc(l, func(x, y api.Entry) int {
		return cmp.Or(cmp.Compare(x.Table, y.Table), cmp.Compare(y.Priority, x.Priority))
	})
	for _, x := range l {
		s += say(t, wire.Message{Kind: 14, Entry: x})
	}
	for port := range 17 {
		if m.dead[port] > 0 {
			s += portStatus(port, false)
		}
	}
	return s
}

// left is what its meters have.
func (m *model) left() []int {
	l := make([]int, 17)
	for id, b := range m.buckets {
		l[id] = b.Left()
	}
	return l
}
