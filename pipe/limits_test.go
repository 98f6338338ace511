package pipe

import (
	"fmt"
	"slices"
	"testing"

	"drover/api"
	"drover/field"
)

// full is a group of n buckets, all with the same actions.
func full(id, n int, l ...api.Action) api.Group {
	return groupOf(id, api.All, slices.Repeat([]api.Bucket{bucket(l...)}, n)...)
}

// sameOuts is one packet, n times by one port.
func sameOuts(s field.Seen, n, port int) []Out { return slices.Repeat(outs(s, port), n) }

func TestOutsOfActions(t *testing.T) { // Words: 64 at most; the packet behind is as all actions leave it
	x := withGroups(t)
	s := plain(1)
	for _, n := range []int{0, 1, 63, 64, 65, 200} {
		l := slices.Concat(many(n, output(2)), list(push))
		checkAct(t, fmt.Sprint(n), x, s, l, tagged(s, 4096), sameOuts(s, min(n, 64), 2)...)
	}
	// What leaves by no port is no Out, and does not count.
	l := slices.Concat(many(300, output(4)), many(300, output(1)), many(300, output(77)), many(63, output(2)), list(output(4), output(3), output(5)))
	checkAct(t, "ports that are none", x, s, l, s, append(sameOuts(s, 63, 2), outs(s, 3)...)...)
}

func TestOutsOfGroups(t *testing.T) { // Words: of one group, and of several
	s := plain(1)
	l := []api.Group{full(1, 16, output(2)), full(2, 15, output(2)), groupOf(3, api.All, bucket(output(3)))}
	for id, ends := range map[int][]api.Bucket{
		63: {bucket(to(2))}, // 48 and 15
		64: {bucket(to(1))},
		65: {bucket(to(2)), bucket(output(3)), bucket(output(5))},
		66: {bucket(to(1)), bucket(output(3))},
	} {
		l = append(l, groupOf(id, api.All, append([]api.Bucket{bucket(to(1)), bucket(to(1)), bucket(to(1))}, ends...)...))
	}
	x := withGroups(t, l...)
	checkThrough(t, x, s, 63, 0, sameOuts(s, 63, 2)...)
	checkThrough(t, x, s, 64, 0, sameOuts(s, 64, 2)...)
	checkThrough(t, x, s, 65, 0, append(sameOuts(s, 63, 2), outs(s, 3)...)...)
	checkThrough(t, x, s, 66, 0, sameOuts(s, 64, 2)...)
	for _, c := range []struct {
		l    []api.Action
		want []Out
	}{
		{list(to(1), to(1), to(1), to(2)), sameOuts(s, 63, 2)},
		{list(to(1), to(1), to(1), to(2), to(3)), append(sameOuts(s, 63, 2), outs(s, 3)...)},
		{list(to(1), to(1), to(1), to(1)), sameOuts(s, 64, 2)},
		{list(to(1), to(1), to(1), to(1), to(3)), sameOuts(s, 64, 2)},
		{list(to(1), to(1), to(1), to(1), output(3)), sameOuts(s, 64, 2)},
		{list(to(3), to(1), to(1), to(1), to(1)), append(outs(s, 3), sameOuts(s, 63, 2)...)},
		{list(to(63), output(3), output(3)), append(sameOuts(s, 63, 2), outs(s, 3)...)},
		{list(to(63), to(3), to(3)), append(sameOuts(s, 63, 2), outs(s, 3)...)},
	} {
		checkAct(t, text(c.l), x, s, c.l, s, c.want...)
	}
}

func TestOutsOfTables(t *testing.T) { // Words: of one Run, in all
	s := plain(1)
	for _, c := range []struct {
		applied int
		want    []Out
	}{
		{62, append(sameOuts(s, 62, 2), outs(s, 3)...)},
		{63, append(sameOuts(s, 63, 2), outs(s, 3)...)},
		{64, sameOuts(s, 64, 2)},
		{96, sameOuts(s, 64, 2)},
	} {
		x := withFlows(t,
			api.Entry{Apply: many(20, output(2)), Write: list(output(3)), Goto: 2},
			api.Entry{Table: 2, Apply: many(12, output(2)), Goto: 5},
			api.Entry{Table: 5, Apply: many(min(32, c.applied-32), output(2)), Goto: 6},
			api.Entry{Table: 6, Apply: many(max(0, c.applied-64), output(2))})
		checkRun(t, fmt.Sprint(c.applied), x, s, c.want...)
		checkRun(t, "again", x, s, c.want...)
	}
	x := withFlows(t,
		api.Entry{Apply: many(32, output(2)), Goto: 1},
		api.Entry{Table: 1, Apply: many(31, output(2)), Write: list(to(1))})
	x.Groups = groups(t, groupOf(1, api.All, bucket(output(4)), bucket(output(3)), bucket(output(5))))
	checkRun(t, "an action set with a group", x, s, append(sameOuts(s, 63, 2), outs(s, 3)...)...)
}

func TestRunGoesOnBehindTheLastOut(t *testing.T) { // Words: Outs are not there, all else is
	x := withFlows(t,
		api.Entry{Apply: many(32, output(2)), Goto: 1},
		api.Entry{Table: 1, Apply: append(many(31, output(2)), output(3)), Goto: 2},
		api.Entry{Table: 2, Meter: 1, Apply: list(output(5)), Write: list(output(5))})
	x.Meters = append(x.Meters, nil, newMeter(t, 40))
	for _, n := range []int{24, 8, 8} { // a packet has 16 bytes
		checkRun(t, "64 Outs", x, plain(1), append(sameOuts(plain(1), 63, 2), outs(plain(1), 3)...)...)
		if x.Meters[1].Left() != n {
			t.Errorf("%d bytes left, not %d", x.Meters[1].Left(), n)
		}
	}
}

// empty are groups without an Out, for counting: the group n, from 1 to 15, has n buckets; the group 100 has 16 of them, each of which leads to the group 15, so that there are 256 of it in all; of the group 99 there are 255: its last one leads to the group 14.
func empty() []api.Group {
	var l []api.Group
	for n := 1; n <= 15; n++ {
		l = append(l, full(n, n, push))
	}
	last := full(99, 16, to(15))
	last.Buckets[15] = bucket(to(14))
	return append(l, full(100, 16, to(15)), last)
}

func TestBucketsOfActions(t *testing.T) { // Words: 256 at most, of several groups
	x := withGroups(t, append(empty(), groupOf(50, api.All, bucket(output(2)), bucket(output(3)), bucket(output(5))))...)
	s := plain(1)
	for _, c := range []struct {
		l     []api.Action
		ports []int // of the group 50, behind so many buckets
	}{
		{many(63, to(4)), []int{2, 3, 5}},                // 252
		{append(many(63, to(4)), to(1)), []int{2, 3, 5}}, // 253
		{append(many(63, to(4)), to(2)), []int{2, 3}},    // 254
		{append(many(63, to(4)), to(3)), []int{2}},       // 255
		{append(many(63, to(4)), to(4)), nil},            // 256
		{append(many(63, to(4)), to(5)), nil},            // 257, were there as many
		{list(to(99)), []int{2}},
		{list(to(100)), nil},
		{list(to(99), to(9), to(9)), nil},
		{list(to(77), to(99), to(77)), []int{2}}, // the group 77 is not there, and has none
	} {
		what := text(c.l)
		checkAct(t, what, x, s, append(c.l, to(50)), s, outs(s, c.ports...)...)
		// What is no bucket is not behind one.
		checkAct(t, what, x, s, append(c.l, to(50), push, output(5)), tagged(s, 4096), append(outs(s, c.ports...), outs(tagged(s, 4096), 5)...)...)
		checkAct(t, "with an Output ahead", x, s, append(list(output(2)), append(c.l, to(50))...), s, append(outs(s, 2), outs(s, c.ports...)...)...)
	}
}

func TestBucketsOfOneGroup(t *testing.T) { // Words: 256 at most, those that lead to others with them
	s := plain(1)
	for id, ports := range map[uint64][]int{50: {2, 3}, 51: {2}, 52: nil} {
		// 15 times 1 and 15 are 240; then there is one that leads to the group, which has 13 to 15 ahead of its first Out
		x := withGroups(t, append(empty(),
			groupOf(50, api.All, append(full(0, 13).Buckets, bucket(output(2)), bucket(output(3)), bucket(output(5)))...),
			groupOf(51, api.All, append(full(0, 14).Buckets, bucket(output(2)), bucket(output(3)))...),
			groupOf(52, api.All, append(full(0, 15).Buckets, bucket(output(2)))...),
			groupOf(70, api.All, append(full(0, 15, to(15)).Buckets, bucket(to(id)))...))...)
		checkThrough(t, x, s, 70, 0, outs(s, ports...)...)
	}
}

func TestBucketsThatCount(t *testing.T) { // Words: those that are gone through, whatever comes of them, and no others
	s := plain(1)
	some := []api.Bucket{bucket(), bucket(), bucket()}
	l := append(empty(),
		groupOf(50, api.All, bucket(output(2)), bucket(output(3)), bucket(output(5))),
		groupOf(51, api.Select, some...),
		groupOf(52, api.Failover, watching(4), watching(3), watching(2)),
		groupOf(53, api.Failover, watching(4), watching(4)),
		groupOf(54, api.Indirect, watching(4, output(4))),
		groupOf(55, api.All, watching(4, output(1)), watching(4, to(53))),
		groupOf(56, api.All))
	for _, g := range chain(9) { // of the group 209, the group 201 is too deep
		g.ID += 200
		for _, b := range g.Buckets {
			if a := &b.Actions[0]; a.Kind == api.ToGroup {
				a.Value += 200
			} else {
				a.Value = 4 // dead
			}
		}
		l = append(l, g)
	}
	x := withGroups(t, l...)
	for id, n := range map[uint64]int{51: 1, 52: 1, 53: 0, 54: 1, 55: 2, 56: 0, 208: 15, 209: 16} {
		for ahead := 250 - n; ahead <= 257; ahead++ {
			l := slices.Concat(many(ahead, to(1)), list(to(id), to(50)))
			want := outs(s, []int{2, 3, 5}[:min(3, max(0, 256-ahead-n))]...)
			checkAct(t, fmt.Sprintf("group %d behind %d buckets", id, ahead), x, s, l, s, want...)
		}
	}
}

func TestBucketsOfTables(t *testing.T) { // Words: of one Run, in all
	s := plain(1)
	for _, c := range []struct {
		id    uint64 // how many more than 243
		ports []int
	}{
		{10, []int{2, 3, 5}}, {11, []int{2, 3}}, {12, []int{2}}, {13, nil}, {14, nil},
	} {
		x := withFlows(t,
			api.Entry{Apply: many(16, to(10)), Write: list(to(50)), Goto: 3},
			api.Entry{Table: 3, Apply: list(to(3), to(77)), Goto: 7},
			api.Entry{Table: 7, Apply: list(to(80), to(c.id))})
		x.Groups = groups(t, append(empty(), groupOf(50, api.All, bucket(output(2)), bucket(output(3)), bucket(output(5))), full(80, 16, to(4)))...)
		// 160 and 3, and 16 times 5 of the group 80
		checkRun(t, fmt.Sprint(c.id), x, s, outs(s, c.ports...)...)
		checkRun(t, "again", x, s, outs(s, c.ports...)...)
	}
}

func TestEachCallCountsAnew(t *testing.T) { // Words: in one call
	x := withFlows(t, api.Entry{Apply: list(to(99)), Write: list(to(50))})
	x.Groups = groups(t, append(empty(), groupOf(50, api.All, bucket(output(2)), bucket(output(3))), full(60, 16, output(2)))...)
	s := plain(1)
	for range 3 {
		checkRun(t, "Run", x, s, outs(s, 2)...)
		checkAct(t, "Act", x, s, list(to(99), to(50)), s, outs(s, 2)...)
		checkAct(t, "Act, 64 Outs", x, s, many(9, to(60)), s, sameOuts(s, 64, 2)...)
		checkAct(t, "Act, 70 actions", x, s, many(70, output(3)), s, sameOuts(s, 64, 3)...)
	}
}
