package pipe

import (
	"slices"
	"testing"

	"drover/api"
	"drover/field"
	"drover/meter"
)

// rich has something of everything, so that nothing is left out.
func rich(t *testing.T) Parts {
	t.Helper()
	x := withFlows(t,
		api.Entry{Meter: 1, Apply: list(to(1), push, output(2)), Write: list(to(2), set(api.Vlan, 4100)), Meta: 3, MetaMask: 7, Goto: 1},
		api.Entry{Table: 1, Priority: 1, Tests: []api.Test{meta(3, 7)}, Meter: 2, Apply: list(output(3)), Write: list(output(5))},
		api.Entry{Table: 1, Clear: true, Write: list(output(back))})
	x.Groups = groups(t,
		groupOf(1, api.Select, bucket(output(2), push), bucket(set(api.Dst, 7), output(3))),
		groupOf(2, api.All, bucket(to(1), push), watching(4, output(5)), bucket(pop, output(3))),
		groupOf(3, api.Failover, watching(4, output(2)), watching(5, to(2))))
	x.Meters = []*meter.Bucket{nil, newMeter(t, 1000), newMeter(t, 200), nil}
	return x
}

// actions are for Act of rich; some of them are not right.
func actions() []api.Action {
	return list(to(3), push, set(api.Vlan, 4101), output(2), to(9), output(77), api.Action{Kind: 9}, set(api.Src, 1<<40), pop, to(1), output(back))
}

func TestNothingIsWrittenInto(t *testing.T) { // R2: nor what stands behind the lengths
	x := rich(t)
	l := append(actions(), output(5), output(3))
	x.Meters = append(x.Meters, newMeter(t, 5), nil)
	x.Live = append(x.Live, true, false, true)
	keptL, keptMeters, keptLive := slices.Clone(l), slices.Clone(x.Meters), slices.Clone(x.Live)
	cut := x
	cut.Meters, cut.Live = x.Meters[:len(x.Meters)-2], x.Live[:len(x.Live)-3]
	for pick := range 4 {
		Run(cut, inner(1), pick)
		Act(cut, inner(1), l[:len(l)-2], pick)
		Act(cut, plain(3), l[:0], pick)
		if !slices.Equal(l, keptL) || !slices.Equal(x.Meters, keptMeters) || !slices.Equal(x.Live, keptLive) {
			t.Fatalf("%+v %+v %+v", l, x.Meters, x.Live)
		}
	}
	if n := x.Meters[len(keptMeters)-2].Left(); n != 5 {
		t.Error(n)
	}
}

func TestWhatIsBehindTheLengthsIsNotThere(t *testing.T) { // R2
	s := plain(1)
	checkAct(t, "actions", withGroups(t), s, list(output(2), push, output(3))[:1], s, outs(s, 2)...)
	x := metered(t, 1, []*meter.Bucket{nil, newMeter(t, 0)}[:1]...)
	checkRun(t, "meters", x, s, outs(s, 2, 3)...)
	x.Live = x.Live[:3]
	checkRun(t, "ports", x, s, outs(s, 2)...)
}

func TestWhatIsAnsweredIsTheCallers(t *testing.T) { // R2
	x := rich(t)
	x.Meters = nil
	s := inner(1)
	wantRun := slices.Clone(Run(x, s, 0))
	l, wantBehind := Act(x, s, actions(), 0)
	wantAct := slices.Clone(l)
	if len(wantRun) < 3 || len(wantAct) < 3 {
		t.Fatal(wantRun, wantAct)
	}
	var old [][]Out
	for range 4 {
		run := Run(x, s, 0)
		act, behind := Act(x, s, actions(), 0)
		checkOuts(t, "Run", run, wantRun)
		checkOuts(t, "Act", act, wantAct)
		if behind != wantBehind {
			t.Errorf("%+v, not %+v", behind, wantBehind)
		}
		for _, l := range append(old, run, act) {
			_ = append(l, Out{Port: 88})
			l = l[:cap(l)]
			for i := range l {
				l[i] = Out{Port: 99}
			}
		}
		old = append(old, run, act)
	}
}

func TestAnswersShareNoMemory(t *testing.T) { // R2: those of calls of the same things
	x := rich(t)
	a := Run(x, inner(1), 0)
	b := Run(x, inner(1), 0)
	c, _ := Act(x, inner(1), actions(), 0)
	keptB, keptC := slices.Clone(b), slices.Clone(c)
	clear(a[:cap(a)])
	checkOuts(t, "Run", b, keptB)
	checkOuts(t, "Act", c, keptC)
	clear(b[:cap(b)])
	checkOuts(t, "Act", c, keptC)
}

func TestFlowsAndGroupsStay(t *testing.T) { // P12.3
	x := rich(t)
	before := state(x)
	for pick := -2; pick < 3; pick++ {
		for _, s := range []field.Seen{plain(1), inner(2), tagged(inner(3), 4100), {}} {
			Run(x, s, pick)
			Act(x, s, actions(), pick)
			if now := state(x); now != before {
				t.Fatalf("%s, not %s", now, before)
			}
		}
	}
}

func TestCallsKnowNothingOfEachOther(t *testing.T) { // R3: but by the meters
	x := rich(t)
	x.Meters = nil
	calls := []func() string{}
	for _, s := range []field.Seen{plain(1), inner(2), tagged(inner(1), 4097), {In: 1, Meta: all64, P: plain(1).P}} {
		for pick := range 2 {
			calls = append(calls,
				func() string { return text(Run(x, s, pick)) },
				func() string { l, u := Act(x, s, actions(), pick); return text(l) + text(u) },
				func() string { l, u := Act(x, s, many(300, to(3)), pick); return text(l) + text(u) })
		}
	}
	var alone []string
	for _, call := range calls {
		alone = append(alone, call())
	}
	for i, first := range calls {
		for k, second := range calls {
			if first() != alone[i] || second() != alone[k] {
				t.Fatalf("call %d, and call %d behind it", i, k)
			}
		}
	}
}

func TestCallsMeetInTheMeters(t *testing.T) { // R3: Run's take, Act's do not; those of other meters do not count
	x, other := rich(t), rich(t)
	s := inner(1) // 56 bytes; 60 with a tag, at the meter 2
	for i, n := range []int{140, 80, 20, 20} {
		Act(x, s, actions(), i)
		Run(other, s, i)
		Run(x, s, i)
		if got, want := left(x.Meters), []int{0, 1000 - 56*(i+1), n, 0}; !slices.Equal(got, want) {
			t.Errorf("behind %d packets: %v, not %v", i+1, got, want)
		}
	}
	if !slices.Equal(left(x.Meters), left(other.Meters)) {
		t.Error(left(other.Meters))
	}
}
