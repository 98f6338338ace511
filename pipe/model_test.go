package pipe

import (
	"drover/act"
	"drover/api"
	"drover/field"
	"drover/frame"
	"drover/group"
)

// The model: the chapter's words, with the numbers written out. What is still to be done stands in a list, of which the first one is taken, so that nothing calls itself; and all Outs are kept until the end.

// job is an action set that is to be done at a depth.
type job struct {
	s      field.Seen
	set    []api.Action
	depth  int
	bucket bool // whether the set is a bucket's
}

type model struct {
	x       Parts
	groups  map[uint64]api.Group
	pick    int
	all     []Out
	buckets int  // that came, those behind the last one that counts with them
	deep    bool // whether a group was too deep
}

func (m *model) outs() []Out { return m.all[:min(64, len(m.all))] }

// leave goes through all ports, and asks of each whether it is meant.
func (m *model) leave(s field.Seen, n uint64) {
	for port, alive := range m.x.Live {
		meant := uint64(port) == n && port != s.In
		if n == 4294967288 {
			meant = port == s.In
		}
		if meant && port >= 1 && alive {
			m.all = append(m.all, Out{port, s.P})
		}
	}
}

// jobs are those of a packet that goes through a group.
func (m *model) jobs(s field.Seen, n uint64, depth int) []job {
	if depth == 8 {
		m.deep = true
		return nil
	}
	var l []job
	for _, b := range group.Choose(m.groups[n], m.x.Live, m.pick) { // of no group none
		l = append(l, job{s, act.Merge(nil, b.Actions...), depth + 1, true})
	}
	return l
}

func (m *model) work(l ...job) {
	for len(l) > 0 {
		j := l[0]
		l = l[1:]
		if j.bucket {
			m.buckets++
			if m.buckets > 256 {
				continue
			}
		}
		l = append(m.do(j), l...)
	}
}

// do is what is to be done ahead of all else, behind an action set.
func (m *model) do(j job) []job {
	byKind := map[int][]api.Action{}
	for _, a := range j.set {
		byKind[a.Kind] = append(byKind[a.Kind], a)
	}
	for _, kind := range []int{api.Pop, api.Push, api.Set} {
		for _, a := range byKind[kind] {
			j.s = act.Change(j.s, a)
		}
	}
	for _, a := range byKind[api.ToGroup] {
		return m.jobs(j.s, a.Value, j.depth)
	}
	for _, a := range byKind[api.Output] {
		m.leave(j.s, a.Value)
	}
	return nil
}

func (m *model) act(s field.Seen, l []api.Action) field.Seen {
	for _, a := range l {
		switch a.Kind {
		case 1:
			m.leave(s, a.Value)
		case 2:
			m.work(m.jobs(s, a.Value, 0)...)
		default:
			s = act.Change(s, a)
		}
	}
	return s
}

func (m *model) run(s field.Seen) {
	s.Meta = 0
	var set []api.Action
	next := 0
	for number := range 8 {
		if number != next {
			continue
		}
		x, is := m.x.Flows.Look(number, s)
		if !is || m.holdsUp(x.Meter, s.P) {
			return
		}
		s = m.act(s, x.Apply)
		if x.Clear {
			set = nil
		}
		set = act.Merge(set, x.Write...)
		s.Meta = noted(s.Meta, x)
		if next = x.Goto; next <= number {
			m.work(job{s, set, 0, false})
			return
		}
	}
}

func (m *model) holdsUp(n int, p api.Packet) bool {
	for number, b := range m.x.Meters {
		if n == 0 || number != n || b == nil {
			continue
		}
		size := 0
		if bytes, e := frame.Bytes(p); e == api.OK {
			size = len(bytes)
		}
		took, _ := b.Take(size)
		return !took
	}
	return false
}

// noted is Meta behind an entry, bit by bit.
func noted(meta uint64, x api.Entry) uint64 {
	n := uint64(0)
	for bit := range 64 {
		from := meta
		if x.MetaMask>>bit&1 == 1 {
			from = x.Meta
		}
		n |= from >> bit & 1 << bit
	}
	return n
}

func newModel(x Parts, pick int) *model {
	m := &model{x: x, groups: map[uint64]api.Group{}, pick: pick}
	for _, g := range x.Groups.List() {
		m.groups[uint64(g.ID)] = g
	}
	return m
}

func modelRun(x Parts, s field.Seen, pick int) *model {
	m := newModel(x, pick)
	m.run(s)
	return m
}

func modelAct(x Parts, s field.Seen, l []api.Action, pick int) (*model, field.Seen) {
	m := newModel(x, pick)
	return m, m.act(s, l)
}
