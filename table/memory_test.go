package table

import (
	"testing"

	"drover/api"
	"drover/field"
)

// roomy is an entry whose lists have room behind their lengths, in which something stands.
func roomy(x api.Entry) api.Entry {
	x = apart(x)
	x.Tests = append(x.Tests, vlan(7), inner())[:len(x.Tests)]
	x.Apply = append(x.Apply, output(71), output(72))[:len(x.Apply)]
	x.Write = append(x.Write, output(73), output(74))[:len(x.Write)]
	return x
}

// whole is an entry with what stands behind its lists' lengths, too.
func whole(x api.Entry) api.Entry {
	x.Tests, x.Apply, x.Write = x.Tests[:cap(x.Tests)], x.Apply[:cap(x.Apply)], x.Write[:cap(x.Write)]
	return x
}

// spoil writes into all that an entry shares, and behind its lengths.
func spoil(x api.Entry) {
	x = whole(x)
	for i := range x.Tests {
		x.Tests[i] = meta(81, 81)
	}
	for i := range x.Apply {
		x.Apply[i] = output(82)
	}
	for i := range x.Write {
		x.Write[i] = output(83)
	}
}

func TestNothingIsWrittenInto(t *testing.T) { // R2: nor behind the lengths, whatever is answered
	l := []api.Entry{rich(1, 5, 99), rich(1, 5, 99, inPort(1)), rich(1, 4, 99, inPort(1)), rich(2, 5, 99), rich(3, 5, 99, inPort(1), meta(1, 1)), {Table: 1}}
	for _, part := range faults() {
		for _, one := range part {
			x := rich(0, 5, 99, inPort(1))
			one.do(&x)
			l = append(l, x)
		}
	}
	for _, x := range l {
		for _, c := range callsOf(roomy(x)) {
			f := flows(t, 8, some()...)
			before := text(whole(c.x))
			c.of(f)
			f.List(1)
			f.Look(1, field.Seen{In: 1})
			call{"Add", rich(1, 5, 98, inPort(1)), false}.of(f)
			call{"Modify", rich(1, 5, 97), false}.of(f)
			call{"Delete", rich(1, 5, 96), false}.of(f)
			if now := text(whole(c.x)); now != before {
				t.Errorf("%s(.., %v): %s, not %s", c.name, c.how, now, before)
			}
		}
	}
}

func TestWhatIsAddedIsNotKept(t *testing.T) { // R2: the caller may change it, at once and later
	f := flows(t, 4)
	a, b := roomy(rich(0, 5, 1, inPort(1))), roomy(rich(0, 5, 2, inPort(1), vlan(1)))
	wantA, wantB := apart(a), apart(b)
	checkDone(t, f, call{"Add", a, false})
	spoil(a)
	checkList(t, f, 0, wantA)
	checkDone(t, f, call{"Add", b, false})
	spoil(b)
	checkList(t, f, 0, wantA, wantB)
	again := roomy(rich(0, 5, 3, inPort(1))) // in the place of one
	wantA = apart(again)
	checkDone(t, f, call{"Add", again, false})
	spoil(again)
	checkList(t, f, 0, wantA, wantB)
	checkLook(t, f, 0, field.Seen{In: 1}, wantA)
	checkNothing(t, f, 0, field.Seen{Meta: 81})
	checkRefused(t, f, call{"Add", wantB, true}, api.ErrClash)
}

func TestWhatOthersComeToDoIsNotKept(t *testing.T) { // R2: one Modify, of several entries at once
	for _, strict := range []bool{true, false} {
		f := flows(t, 16, some()...)
		x := roomy(rich(1, 5, 99))
		as := apart(x)
		checkDone(t, f, call{"Modify", x, strict})
		spoil(x)
		want := some()
		for i, y := range want {
			if y.Table == 1 && (!strict || i == 5) {
				want[i] = doing(y, as)
			}
		}
		checkTables(t, f, want)
	}
}

func TestWhatIsAnsweredIsTheCallers(t *testing.T) { // R2: also behind a Modify of several entries at once
	f := flows(t, 16, some()...)
	checkDone(t, f, call{"Modify", rich(1, 0, 99, inPort(1)), false})
	want := [][]api.Entry{f.List(1), f.List(2)}
	for i, l := range want {
		for k := range l {
			want[i][k] = apart(l[k])
		}
	}
	for range 3 {
		for i := range want {
			checkList(t, f, 1+i, want[i]...)
			l := f.List(1 + i)
			for k := range l {
				spoil(l[k])
				l[k].Table, l[k].Priority, l[k].Goto = 3, 77, 6
				l[k].Tests = nil
			}
			_ = append(l, rich(1, 5, 55))
			clear(l[:cap(l)])
			checkList(t, f, 1+i, want[i]...)
			s := field.Seen{In: 1}
			x, _ := f.Look(1+i, s)
			spoil(x)
			checkList(t, f, 1+i, want[i]...)
			checkLook(t, f, 1+i, s, want[i][0])
		}
	}
}

// owners are the places in memory of some entries' lists, with who has them.
type owners map[any]string

// take notes an entry's places, and tells of one that another one has.
func (o owners) take(t *testing.T, x api.Entry, who string) {
	t.Helper()
	x = whole(x)
	note := func(place any, list string) {
		if other, is := o[place]; is {
			t.Errorf("%s of %s shares memory with %s", list, who, other)
		}
		o[place] = list + " of " + who
	}
	for i := range x.Tests {
		note(&x.Tests[i], "Tests")
	}
	for i := range x.Apply {
		note(&x.Apply[i], "Apply")
	}
	for i := range x.Write {
		note(&x.Write[i], "Write")
	}
}

func TestNoTwoListsShareMemory(t *testing.T) { // R2: of one answer, of two of them, nor with what was handed in
	one := []api.Action{output(1), output(2), output(3)}
	tests := []api.Test{inPort(1)}
	f := flows(t, 16)
	var handed []api.Entry
	for i := range 5 { // that were handed in with the same lists
		x := api.Entry{Priority: i, Tests: tests, Apply: one, Write: one}
		handed = append(handed, x)
		checkDone(t, f, call{"Add", x, false})
	}
	for round := range 3 {
		o := owners{}
		o.take(t, api.Entry{Tests: tests, Apply: one}, "what was handed in")
		for range 2 {
			for _, x := range f.List(0) {
				o.take(t, x, "an entry of List")
			}
			x, _ := f.Look(0, field.Seen{In: 1})
			o.take(t, x, "the entry of Look")
		}
		call{"Modify", handed[round], round == 1}.of(f)
	}
	l := f.List(0)
	spoil(l[2])
	for i := range l {
		if i != 2 && text(l[i]) != text(handed[4-i]) {
			t.Errorf("%+v, not %+v", l[i], handed[4-i])
		}
	}
}

func TestLongListsShareNothing(t *testing.T) { // R2: tables that grew and shrank, and a list that was answered ahead
	f := flows(t, 256)
	for i := range 256 {
		checkDone(t, f, call{"Add", rich(0, i%7, uint64(i), inPort(uint64(i))), true})
	}
	before := f.List(0)
	told := text(before)
	checkDone(t, f, call{"Delete", entry(0, 0, 0, api.Test{Field: api.InPort, Value: 1, Mask: 1}), false})
	checkDone(t, f, call{"Modify", rich(0, 0, 999), false})
	checkDone(t, f, call{"Add", rich(0, 65535, 1, inPort(1)), true})
	if text(before) != told {
		t.Error("a list that was answered was changed")
	}
	now := state(f)
	for _, x := range before {
		spoil(x)
	}
	clear(before)
	if state(f) != now {
		t.Error("the tables were changed by way of a list that was answered")
	}
}
