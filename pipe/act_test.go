package pipe

import (
	"testing"

	"drover/api"
	"drover/field"
)

func TestActOfNothing(t *testing.T) { // P12.1
	x := withGroups(t, groupOf(1, api.All, bucket(output(2))))
	for _, s := range []field.Seen{{}, plain(1), inner(2), {In: -1, Meta: 1<<64 - 1, P: api.Packet{Vlan: -1, Data: "x"}}} {
		checkAct(t, "nil", x, s, nil, s)
		checkAct(t, "none", x, s, list(), s)
	}
}

func TestActOfEachKind(t *testing.T) { // P12.1
	x := withGroups(t, groupOf(1, api.All, bucket(push, output(2))))
	changed := inner(1)
	changed.P.Dport = 443
	noted := inner(1)
	noted.Meta = 1<<64 - 1
	for _, c := range []struct {
		what   string
		s      field.Seen
		a      api.Action
		behind field.Seen
		want   []Out
	}{
		{"Output", inner(1), output(3), inner(1), outs(inner(1), 3)},
		{"Output of a dead port", inner(1), output(4), inner(1), nil},
		{"Output with a Field", inner(1), api.Action{Kind: api.Output, Field: 9, Value: 3}, inner(1), outs(inner(1), 3)},
		{"ToGroup", inner(1), to(1), inner(1), outs(tagged(inner(1), 4096), 2)},
		{"ToGroup with a Field", inner(1), api.Action{Kind: api.ToGroup, Field: 9, Value: 1}, inner(1), outs(tagged(inner(1), 4096), 2)},
		{"Push", inner(1), push, tagged(inner(1), 4096), nil},
		{"Push of a tag", tagged(inner(1), 4100), push, tagged(inner(1), 4100), nil},
		{"Push with a Value", inner(1), api.Action{Kind: api.Push, Value: 3}, tagged(inner(1), 4096), nil},
		{"Pop", tagged(inner(1), 4100), pop, inner(1), nil},
		{"Pop without a tag", inner(1), pop, inner(1), nil},
		{"Set", inner(1), set(api.Dport, 443), changed, nil},
		{"Set of too much", inner(1), set(api.Dport, 65536), inner(1), nil},
		{"Set where there is no such field", plain(1), set(api.Dport, 443), plain(1), nil},
		{"Set of InPort", inner(1), set(api.InPort, 3), inner(1), nil},
		{"Set of Meta", inner(1), set(api.Meta, 1<<64-1), noted, nil},
		{"Set of no field", inner(1), set(77, 1), inner(1), nil},
		{"the Kind 0", inner(1), api.Action{Value: 3}, inner(1), nil},
		{"the Kind 6", inner(1), api.Action{Kind: 6, Value: 3}, inner(1), nil},
		{"the Kind -1", inner(1), api.Action{Kind: -1, Value: 3}, inner(1), nil},
	} {
		checkAct(t, c.what, x, c.s, list(c.a), c.behind, c.want...)
	}
}

func TestActOneBehindTheOther(t *testing.T) { // P12.1: what an earlier one did shows in what the later ones let out
	x := withGroups(t, groupOf(1, api.All, bucket(set(api.Dst, 99), output(5))))
	s := inner(1)
	s.Meta = 9
	a, b, c := tagged(s, 4096), tagged(s, 4101), s
	c.P.Sport = 7
	d := c
	d.P.Dst = 99
	l := list(output(2), push, output(2), set(api.Vlan, 4101), output(3), output(4), output(1), pop, set(api.Sport, 7), output(back), to(1), output(5), push, set(api.Vlan, 4101))
	checkAct(t, "all of them", x, s, l, tagged(c, 4101),
		Out{2, s.P}, Out{2, a.P}, Out{3, b.P}, Out{1, c.P}, Out{5, d.P}, Out{5, c.P})
	// They are no action set: they are done as they stand, also twice.
	checkAct(t, "a Set ahead of its Push", x, s, list(set(api.Vlan, 4101), push, output(2)), a, Out{2, a.P})
	checkAct(t, "an Output ahead of a Pop", x, a, list(output(2), pop), s, Out{2, a.P})
	checkAct(t, "an Output twice", x, s, list(output(2), output(2)), s, Out{2, s.P}, Out{2, s.P})
	checkAct(t, "an Output beside a ToGroup", x, c, list(output(2), to(1), output(2), to(1)), c, Out{2, c.P}, Out{5, d.P}, Out{2, c.P}, Out{5, d.P})
}

func TestActLeavesMetaAndIn(t *testing.T) { // P12.1: it is Run that begins with Meta 0
	x := withGroups(t)
	s := plain(3)
	s.Meta = 1 << 63
	behind := tagged(s, 4096)
	checkAct(t, "Meta", x, s, list(push, output(2)), behind, outs(behind, 2)...)
}

func TestActAsksNoEntry(t *testing.T) { // P12.1: neither entries nor meters count
	x := withFlows(t, api.Entry{Meter: 1, Apply: list(output(3)), Write: list(output(5))})
	x.Meters = append(x.Meters, nil, newMeter(t, 0))
	checkAct(t, "Act", x, plain(1), list(output(2)), plain(1), outs(plain(1), 2)...)
}
