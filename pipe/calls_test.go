package pipe

import (
	"fmt"
	"slices"
	"testing"

	"drover/api"
	"drover/field"
	"drover/group"
	"drover/meter"
	"drover/table"
)

const back = 4294967288 // the number of the port that is In

var (
	push = api.Action{Kind: api.Push}
	pop  = api.Action{Kind: api.Pop}
)

func output(n uint64) api.Action { return api.Action{Kind: api.Output, Value: n} }

func to(n uint64) api.Action { return api.Action{Kind: api.ToGroup, Value: n} }

func set(f int, v uint64) api.Action { return api.Action{Kind: api.Set, Field: f, Value: v} }

func list(l ...api.Action) []api.Action { return l }

// many is one action, many times.
func many(n int, a api.Action) []api.Action { return slices.Repeat(list(a), n) }

// bucket is alive whatever Live has.
func bucket(l ...api.Action) api.Bucket { return api.Bucket{Weight: 1, Actions: l} }

func watching(port int, l ...api.Action) api.Bucket {
	return api.Bucket{Watch: port, Weight: 1, Actions: l}
}

func groupOf(id, kind int, l ...api.Bucket) api.Group {
	return api.Group{ID: id, Kind: kind, Buckets: l}
}

// plain is a packet without an inner one; it has 16 bytes.
func plain(in int) field.Seen {
	return field.Seen{In: in, P: api.Packet{To: 2, From: 1, Type: 0x88b5, Data: "hi"}}
}

// inner is a packet that has all fields but a tag; it has 56 bytes.
func inner(in int) field.Seen {
	return field.Seen{In: in, P: api.Packet{To: 2, From: 1, Type: 0x0800, Src: 10, Dst: 11, Life: 64, Proto: 6, Sport: 1000, Dport: 80, Data: "hi"}}
}

// tagged is a packet with a tag.
func tagged(s field.Seen, vlan int) field.Seen {
	s.P.Vlan = vlan
	return s
}

// alive is ports 1 to most, all alive.
func alive(most int) []bool {
	l := slices.Repeat([]bool{true}, most+1)
	l[0] = false
	return l
}

func flows(t *testing.T, l ...api.Entry) *table.Flows {
	t.Helper()
	f, _ := table.New(256)
	for _, x := range l {
		if e := f.Add(x, false); e != api.OK {
			t.Fatalf("Add(%+v): %d", x, int(e))
		}
	}
	return f
}

func groups(t *testing.T, l ...api.Group) *group.Table {
	t.Helper()
	g, _ := group.New(64)
	for _, x := range l {
		if e := g.Add(x); e != api.OK {
			t.Fatalf("Add(%+v): %d", x, int(e))
		}
	}
	return g
}

func newMeter(t *testing.T, burst int) *meter.Bucket {
	t.Helper()
	b, e := meter.New(1, burst)
	if e != api.OK {
		t.Fatal(int(e))
	}
	return b
}

// withFlows has entries, no group, and the ports 1 to 5, of which 4 is dead.
func withFlows(t *testing.T, l ...api.Entry) Parts {
	t.Helper()
	live := alive(5)
	live[4] = false
	return Parts{Flows: flows(t, l...), Groups: groups(t), Live: live}
}

// withGroups has groups, no entry, and the same ports.
func withGroups(t *testing.T, l ...api.Group) Parts {
	t.Helper()
	x := withFlows(t)
	x.Groups = groups(t, l...)
	return x
}

// text tells two answers from each other; a list without elements is as one that is nil.
func text(x any) string { return fmt.Sprintf("%+v", x) }

// outs is one packet, by several ports.
func outs(s field.Seen, ports ...int) []Out {
	var l []Out
	for _, port := range ports {
		l = append(l, Out{port, s.P})
	}
	return l
}

func checkOuts(t *testing.T, what string, got, want []Out) {
	t.Helper()
	if text(got) != text(want) {
		t.Errorf("%s: %+v, not %+v", what, got, want)
	}
}

// checkRun is with pick 0.
func checkRun(t *testing.T, what string, x Parts, s field.Seen, want ...Out) {
	t.Helper()
	checkOuts(t, what, Run(x, s, 0), want)
}

// checkAct is with pick 0.
func checkAct(t *testing.T, what string, x Parts, s field.Seen, l []api.Action, behind field.Seen, want ...Out) {
	t.Helper()
	got, u := Act(x, s, l, 0)
	checkOuts(t, what, got, want)
	if u != behind {
		t.Errorf("%s: the packet behind is %+v, not %+v", what, u, behind)
	}
}

// state is all that can be seen of Flows and Groups.
func state(x Parts) string {
	var l [][]api.Entry
	for number := range 8 {
		l = append(l, x.Flows.List(number))
	}
	return text(l) + text(x.Groups.List())
}

// left is what the meters have.
func left(l []*meter.Bucket) []int {
	var n []int
	for _, b := range l {
		n = append(n, b.Left())
	}
	return n
}
