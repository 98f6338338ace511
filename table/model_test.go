package table

import (
	"fmt"
	"slices"

	"drover/api"
	"drover/field"
	"drover/instr"
	"drover/match"
)

// The model: the chapter's words, with the limits' and errors' numbers written out. Entries are kept apart from those that were handed in, with the time at which they were put.

// text tells two entries, or two lists of them, from each other; a list without elements is as one that is nil.
func text(x any) string { return fmt.Sprintf("%+v", x) }

// apart is an entry that shares nothing with the one that is handed in, and has no room behind its lists' lengths.
func apart(x api.Entry) api.Entry {
	x.Tests = slices.Clip(append([]api.Test(nil), x.Tests...))
	x.Apply = slices.Clip(append([]api.Action(nil), x.Apply...))
	x.Write = slices.Clip(append([]api.Action(nil), x.Write...))
	return x
}

func slowRight(x api.Entry) api.Errno {
	wrong := []api.Errno{instr.Right(x), match.Right(x.Tests...), 0}
	if x.Priority < 0 || x.Priority > 65535 {
		wrong[2] = 1
	}
	for _, e := range wrong {
		if e != 0 {
			return e
		}
	}
	return 0
}

type kept struct {
	x    api.Entry
	when int
}

// model has the entries of all tables in one list, as they came.
type model struct {
	room  int
	clock int
	all   []kept
}

// places are those of a table's entries of which something holds.
func (m *model) places(table int, holds func(api.Entry) bool) []int {
	var l []int
	for i, k := range m.all {
		if k.x.Table == table && holds(k.x) {
			l = append(l, i)
		}
	}
	return l
}

// meant are the places of the entries that a Modify or a Delete is about.
func (m *model) meant(x api.Entry, strict bool) []int {
	return m.places(x.Table, func(y api.Entry) bool {
		if !strict {
			return match.Covers(x.Tests, y.Tests)
		}
		return y.Priority == x.Priority && match.Same(y.Tests, x.Tests)
	})
}

func (m *model) add(x api.Entry, check bool) api.Errno {
	if e := slowRight(x); e != 0 {
		return e
	}
	meets := m.places(x.Table, func(y api.Entry) bool { return y.Priority == x.Priority && match.Meets(y.Tests, x.Tests) })
	if check && len(meets) > 0 {
		return 28
	}
	if l := m.meant(x, true); len(l) > 0 {
		m.all[l[0]].x = apart(x)
		return 0
	}
	if len(m.list(x.Table)) == m.room {
		return 27
	}
	m.clock++
	m.all = append(m.all, kept{apart(x), m.clock})
	return 0
}

func (m *model) modify(x api.Entry, strict bool) api.Errno {
	if e := slowRight(x); e != 0 {
		return e
	}
	for _, i := range m.meant(x, strict) {
		m.all[i].x = doing(m.all[i].x, x)
	}
	return 0
}

func (m *model) delete(x api.Entry, strict bool) api.Errno {
	if e := slowRight(x); e != 0 {
		return e
	}
	for _, i := range slices.Backward(m.meant(x, strict)) {
		m.all = slices.Delete(m.all, i, i+1)
	}
	return 0
}

func (m *model) list(table int) []api.Entry {
	found := []kept{}
	for _, i := range m.places(table, func(api.Entry) bool { return true }) {
		found = append(found, m.all[i])
	}
	slices.SortFunc(found, func(a, b kept) int {
		if p, q := a.x.Priority, b.x.Priority; p != q {
			return q - p
		}
		return a.when - b.when
	})
	var l []api.Entry
	for _, k := range found {
		l = append(l, apart(k.x))
	}
	return l
}

// look goes from the last one to the first one.
func (m *model) look(table int, s field.Seen) (api.Entry, bool) {
	var x api.Entry
	is := false
	for _, y := range slices.Backward(m.list(table)) {
		if match.Takes(y.Tests, s) {
			x, is = y, true
		}
	}
	return x, is
}
