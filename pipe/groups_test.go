package pipe

import (
	"math"
	"slices"
	"testing"

	"drover/api"
	"drover/field"
)

// through are the ways to go through a group.
func through(t *testing.T, x Parts, s field.Seen, id uint64, pick int) map[string][]Out {
	t.Helper()
	l := map[string][]Out{}
	var behind field.Seen
	l["Act"], behind = Act(x, s, list(to(id)), pick)
	if behind != s {
		t.Errorf("group %d: the packet behind is %+v, not %+v", id, behind, s)
	}
	x.Flows = flows(t, api.Entry{Apply: list(to(id))})
	l["Apply"] = Run(x, s, pick)
	x.Flows = flows(t, api.Entry{Write: list(to(id))})
	l["Write"] = Run(x, s, pick)
	return l
}

func checkThrough(t *testing.T, x Parts, s field.Seen, id uint64, pick int, want ...Out) {
	t.Helper()
	for way, got := range through(t, x, s, id, pick) {
		if text(got) != text(want) {
			t.Errorf("%s: group %d, pick %d: %+v, not %+v", way, id, pick, got, want)
		}
	}
}

func TestGroupThatIsNotThere(t *testing.T) { // Words, P12.1
	x := withGroups(t, groupOf(1, api.All, bucket(output(2))), groupOf(65535, api.All, bucket(output(3))))
	s := plain(1)
	checkThrough(t, x, s, 1, 0, outs(s, 2)...)
	checkThrough(t, x, s, 65535, 0, outs(s, 3)...)
	for _, id := range []uint64{2, 65534, 65536, 65537, 1<<32 - 1} {
		checkThrough(t, x, s, id, 0)
	}
	for _, id := range []uint64{0, 2, 65537, 1 << 32, 1<<32 + 1, 1 << 63, 1<<63 + 1, 1<<64 - 1} {
		checkAct(t, "a group that is not there", x, s, list(output(5), to(id), push, output(2)), tagged(s, 4096), Out{5, s.P}, Out{2, tagged(s, 4096).P})
	}
	x.Groups = nil
	checkThrough(t, x, s, 1, 0)
}

func TestGroupOfAll(t *testing.T) { // each bucket has the packet as it came to the group
	x := withGroups(t, groupOf(1, api.All,
		bucket(push, set(api.Vlan, 4100), output(2)), bucket(output(3)), bucket(pop, set(api.Dst, 9), output(5)), bucket(output(4)),
		bucket(), bucket(push), bucket(output(1)), watching(4, output(2)), api.Bucket{Actions: list(output(back))}),
		groupOf(2, api.All))
	s := tagged(inner(1), 4097)
	a := tagged(s, 4100)
	b := tagged(s, 0)
	b.P.Dst = 9
	checkThrough(t, x, s, 1, 0, Out{2, a.P}, Out{3, s.P}, Out{5, b.P}, Out{2, s.P}, Out{1, s.P})
	checkThrough(t, x, s, 1, 77, Out{2, a.P}, Out{3, s.P}, Out{5, b.P}, Out{2, s.P}, Out{1, s.P})
	checkThrough(t, x, s, 2, 0)
}

func TestGroupOfSelect(t *testing.T) { // by the pick
	one := func(watch, weight int, n uint64) api.Bucket {
		return api.Bucket{Watch: watch, Weight: weight, Actions: list(output(n))}
	}
	x := withGroups(t, groupOf(1, api.Select, one(0, 2, 2), one(4, 5, 1), one(5, 0, 1), one(3, 1, 3), one(0, 1, 5)), groupOf(2, api.Select))
	s := plain(1)
	ports := []int{2, 2, 3, 5} // by the pick, modulo 4
	for _, pick := range []int{0, 1, 2, 3, 4, 5, 6, 7, 1002, math.MaxInt, -1, -2, -3, -4, -5, math.MinInt} {
		checkThrough(t, x, s, 1, pick, outs(s, ports[(pick%4+4)%4])...)
		checkThrough(t, x, s, 2, pick)
	}
	x.Live = alive(5)
	x.Live[3] = false
	ports = []int{2, 2, 0, 0, 0, 0, 0, 5} // port 4 is alive now, and leads back to In
	for pick := range 16 {
		var want []Out
		if port := ports[pick%8]; port != 0 {
			want = outs(s, port)
		}
		checkThrough(t, x, s, 1, pick, want...)
	}
}

func TestGroupsHaveOnePick(t *testing.T) { // of groups that lead to groups, and one behind the other
	pair := func(id int, a, b api.Action) api.Group { return groupOf(id, api.Select, bucket(a), bucket(b)) }
	x := withGroups(t, pair(1, output(2), output(3)), pair(2, output(5), to(1)), pair(3, to(2), output(back)))
	s := plain(1)
	checkThrough(t, x, s, 2, 1, outs(s, 3)...)
	checkThrough(t, x, s, 3, 0, outs(s, 5)...)
	checkThrough(t, x, s, 3, 1, outs(s, 1)...)
	for pick, ports := range [][]int{{2, 5, 2}, {3, 3, 3}, {2, 5, 2}} {
		l, _ := Act(x, s, list(to(1), to(2), to(1)), pick)
		checkOuts(t, "three groups", l, outs(s, ports...))
	}
}

func TestGroupOfIndirect(t *testing.T) {
	x := withGroups(t, groupOf(1, api.Indirect, watching(4, push, output(2))))
	for pick := -1; pick < 2; pick++ {
		checkThrough(t, x, plain(1), 1, pick, outs(tagged(plain(1), 4096), 2)...)
	}
}

func TestGroupOfFailover(t *testing.T) {
	x := withGroups(t, groupOf(1, api.Failover, watching(2, push, output(2)), watching(3, output(3)), watching(5, output(5))), groupOf(2, api.Failover))
	s := plain(1)
	for _, c := range []struct {
		dead []int
		want []Out
	}{
		{nil, outs(tagged(s, 4096), 2)},
		{[]int{3, 5}, outs(tagged(s, 4096), 2)},
		{[]int{2}, outs(s, 3)},
		{[]int{2, 3}, outs(s, 5)},
		{[]int{2, 3, 5}, nil},
	} {
		x.Live = alive(5)
		for _, port := range c.dead {
			x.Live[port] = false
		}
		checkThrough(t, x, s, 1, 1, c.want...)
		checkThrough(t, x, s, 2, 1)
	}
	x.Live = alive(5)[:3] // Live does not have the ports behind
	x.Live[2] = false
	checkThrough(t, x, s, 1, 0)
	x.Live = nil
	checkThrough(t, x, s, 1, 0)
	// One that is alive, but lets out by a port that is not, or is In, does not fail over.
	x = withGroups(t, groupOf(1, api.Failover, watching(2, output(4)), watching(3, output(3))), groupOf(2, api.Failover, watching(1, output(1)), watching(3, output(3))))
	checkThrough(t, x, s, 1, 0)
	checkThrough(t, x, s, 2, 0)
}

func TestBucketIsAnActionSet(t *testing.T) { // Words: act.Merge of none and its Actions
	inside := groupOf(1, api.All, bucket(output(3)))
	s := inner(1)
	tag := func(v int) field.Seen { return tagged(s, v) }
	both := tag(4100)
	both.P.Src, both.P.Dport = 5, 6
	for _, c := range []struct {
		what string
		s    field.Seen
		l    []api.Action
		want []Out
	}{
		{"none", s, nil, nil},
		{"no Output", s, list(push, set(api.Vlan, 4100)), nil},
		{"Output first", s, list(output(2), push), outs(tag(4096), 2)},
		{"Set ahead of Push", s, list(set(api.Vlan, 4100), output(2), push), outs(tag(4100), 2)},
		{"Push ahead of Pop", tag(4097), list(output(2), push, pop), outs(tag(4096), 2)},
		{"Push ahead of Pop, without a tag", s, list(push, pop, output(2)), outs(tag(4096), 2)},
		{"all Sets", s, list(output(2), set(api.Dport, 6), set(api.Src, 5), set(api.Vlan, 4100), push), outs(both, 2)},
		{"Set twice", s, list(push, set(api.Vlan, 4099), set(api.Vlan, 4100), output(2)), outs(tag(4100), 2)},
		{"Output twice", s, list(output(2), output(3)), outs(s, 3)},
		{"Output twice, the last one dead", s, list(output(2), output(4)), nil},
		{"Output, back and another one", s, list(output(back), output(2)), outs(s, 2)},
		{"ToGroup ahead of Output", s, list(output(2), push, to(1)), outs(tag(4096), 3)},
		{"ToGroup twice", s, list(to(1), to(2), output(2)), outs(s, 5)},
	} {
		x := withGroups(t, inside, groupOf(2, api.All, bucket(output(5))), groupOf(7, api.Indirect, bucket(c.l...)))
		for way, got := range through(t, x, c.s, 7, 0) {
			checkOuts(t, c.what+", "+way, got, c.want)
		}
	}
}

func TestToGroupIsAheadOfOutputEvenWithoutOuts(t *testing.T) { // Words: a ToGroup is there, whatever comes of it
	x := withGroups(t, groupOf(1, api.All), groupOf(2, api.All, bucket(to(1), output(2))), groupOf(3, api.Failover, watching(4, output(2))), groupOf(4, api.All, bucket(to(3), output(2))))
	checkThrough(t, x, plain(1), 2, 0)
	checkThrough(t, x, plain(1), 4, 0)
	x.Flows = flows(t, api.Entry{Write: list(to(9), output(2))}) // one that is not there
	checkRun(t, "a group that is not there", x, plain(1))
	x.Groups = nil
	checkRun(t, "no groups", x, plain(1))
}

func TestGroupsInGroups(t *testing.T) { // the packet goes in as it is then; what comes behind has it as it came
	x := withGroups(t,
		groupOf(1, api.All, bucket(set(api.Dst, 1), output(2)), bucket(output(3))),
		groupOf(2, api.All, bucket(push, to(1)), bucket(output(5)), bucket(set(api.Src, 2), to(1))),
		groupOf(3, api.All, bucket(output(2)), bucket(set(api.Dport, 3), to(2)), bucket(output(2))))
	s := inner(1)
	with := func(vlan int, src, dst uint32, dport int) api.Packet {
		p := s.P
		p.Vlan, p.Src, p.Dst, p.Dport = vlan, src, dst, dport
		return p
	}
	checkThrough(t, x, s, 3, 0, Out{2, s.P},
		Out{2, with(4096, 10, 1, 3)}, Out{3, with(4096, 10, 11, 3)}, Out{5, with(0, 10, 11, 3)},
		Out{2, with(0, 2, 1, 3)}, Out{3, with(0, 2, 11, 3)}, Out{2, s.P})
}

// chain is groups 1 to n, of which each leads to the one ahead; the first one lets out by port 2, all others by port 3, too.
func chain(n int) []api.Group {
	l := []api.Group{groupOf(1, api.All, bucket(output(2)))}
	for id := 2; id <= n; id++ {
		l = append(l, groupOf(id, api.All, bucket(to(uint64(id-1))), bucket(output(3))))
	}
	return l
}

func TestDepth(t *testing.T) { // Words: the group n is at depth 0, so that the group 1 is at depth n less 1
	x := withGroups(t, chain(12)...)
	s := plain(1)
	for n := 1; n <= 12; n++ {
		var ports []int
		if n-1 <= 7 {
			ports = append(ports, 2)
		}
		for range min(n-1, 8) {
			ports = append(ports, 3)
		}
		checkThrough(t, x, s, uint64(n), 0, outs(s, ports...)...)
	}
}

func TestDepthIsOfEachWay(t *testing.T) { // it is no count of groups: what was deep is behind
	x := withGroups(t, append(chain(9), groupOf(10, api.All, bucket(to(8)), bucket(to(7)), bucket(to(1)), bucket(push, to(7))))...)
	s := plain(1)
	want := slices.Concat(
		outs(s, 3, 3, 3, 3, 3, 3, 3), // of the group 8: the group 1 is at depth 8
		outs(s, 2, 3, 3, 3, 3, 3, 3), // of the group 7: it is at depth 7
		outs(s, 2),
		outs(tagged(s, 4096), 2, 3, 3, 3, 3, 3, 3))
	checkThrough(t, x, s, 10, 0, want...)
	l, _ := Act(x, s, list(to(8), to(8), to(9)), 0)
	checkOuts(t, "one behind the other", l, outs(s, 2, 3, 3, 3, 3, 3, 3, 3, 2, 3, 3, 3, 3, 3, 3, 3, 3, 3, 3, 3, 3, 3, 3, 3))
}

func TestToGroupTooDeepIsAheadOfOutput(t *testing.T) { // the set at depth 8 has a ToGroup
	l := []api.Group{groupOf(1, api.All, bucket(output(3))), groupOf(2, api.All, bucket(to(1), output(2)), bucket(output(5)))}
	for id := 3; id <= 9; id++ {
		l = append(l, groupOf(id, api.Indirect, bucket(to(uint64(id-1)))))
	}
	x := withGroups(t, l...)
	checkThrough(t, x, plain(1), 8, 0, outs(plain(1), 3, 5)...)
	checkThrough(t, x, plain(1), 9, 0, outs(plain(1), 5)...)
}
