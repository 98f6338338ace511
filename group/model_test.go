package group

import (
	"encoding/json"
	"fmt"
	"math/big"
	"slices"

	"drover/act"
	"drover/api"
)

// The model: the chapter's words, with the Kinds' and errors' numbers written out. Groups are kept as texts, which share nothing.

// text tells two groups, or two lists of groups or buckets, from each other; a list without elements is as one that is nil.
func text(x any) string { return fmt.Sprintf("%+v", x) }

// apart is a group that shares nothing with the one that is handed in.
func apart(g api.Group) api.Group { return unpack(pack(g)) }

func pack(g api.Group) string {
	s, err := json.Marshal(g)
	if err != nil {
		panic(err)
	}
	return string(s)
}

func unpack(s string) (g api.Group) {
	if err := json.Unmarshal([]byte(s), &g); err != nil {
		panic(err)
	}
	return g
}

func slowRight(g api.Group) api.Errno {
	if g.ID < 1 || g.ID > 65535 || g.Kind < 1 || g.Kind > 4 || len(g.Buckets) > 16 {
		return 24
	}
	if g.Kind == 3 && len(g.Buckets) != 1 {
		return 24
	}
	wrong := 0
	for _, b := range g.Buckets {
		if len(b.Actions) > 8 || b.Watch < 0 || b.Watch > 16 || g.Kind == 4 && b.Watch == 0 || b.Weight < 0 || b.Weight > 65535 {
			return 24
		}
		for _, a := range b.Actions {
			if !act.Right(a) {
				wrong++
			}
		}
	}
	if wrong > 0 {
		return 22
	}
	return 0
}

// slowLeads is with all that come twice.
func slowLeads(g api.Group) []int {
	var l []int
	for _, b := range g.Buckets {
		for _, a := range b.Actions {
			if a.Kind == 2 {
				l = append(l, int(a.Value))
			}
		}
	}
	return l
}

type model struct {
	room  int
	texts []string // in the order in which they were added
}

func (m *model) place(id int) int {
	return slices.IndexFunc(m.texts, func(s string) bool { return unpack(s).ID == id })
}

func (m *model) there(id int) bool { return m.place(id) >= 0 }

func (m *model) allThere(l []int) bool {
	return !slices.ContainsFunc(l, func(id int) bool { return !m.there(id) })
}

func (m *model) add(g api.Group) api.Errno {
	if e := slowRight(g); e != 0 {
		return e
	}
	if m.there(g.ID) {
		return 29
	}
	if !m.allThere(slowLeads(g)) {
		return 31
	}
	if len(m.texts) == m.room {
		return 27
	}
	m.texts = append(m.texts, pack(g))
	return 0
}

func (m *model) modify(g api.Group) api.Errno {
	if e := slowRight(g); e != 0 {
		return e
	}
	if !m.there(g.ID) || !m.allThere(slowLeads(g)) {
		return 31
	}
	if m.comesBack(g) {
		return 30
	}
	m.texts[m.place(g.ID)] = pack(g)
	return 0
}

func (m *model) delete(id int) api.Errno {
	if !m.there(id) {
		return 31
	}
	for _, g := range m.list() {
		if g.ID != id && slices.Contains(slowLeads(g), id) {
			return 30
		}
	}
	m.texts = slices.Delete(m.texts, m.place(id), m.place(id)+1)
	return 0
}

func (m *model) get(id int) (api.Group, api.Errno) {
	if !m.there(id) {
		return api.Group{}, 31
	}
	return unpack(m.texts[m.place(id)]), 0
}

func (m *model) list() []api.Group {
	var l []api.Group
	for _, s := range m.texts {
		l = append(l, unpack(s))
	}
	slices.SortFunc(l, func(a, b api.Group) int { return a.ID - b.ID })
	return l
}

// comesBack lets marks go one step on from group to group, as often as there are groups.
func (m *model) comesBack(g api.Group) bool {
	marks := map[int]bool{}
	for _, id := range slowLeads(g) {
		marks[id] = true
	}
	for range m.texts {
		for _, s := range m.texts {
			if x := unpack(s); marks[x.ID] {
				for _, id := range slowLeads(x) {
					marks[id] = true
				}
			}
		}
	}
	return marks[g.ID]
}

// knot is the first half of P10.5: what is wrong with a table's groups, or nothing. It takes away those that lead to none that is left, till nothing changes.
func knot(l []api.Group) string {
	left := map[int]api.Group{}
	for _, g := range l {
		left[g.ID] = g
	}
	for _, g := range l {
		for _, id := range slowLeads(g) {
			if _, there := left[id]; !there {
				return fmt.Sprintf("%d leads to %d, which is not there", g.ID, id)
			}
		}
	}
	for range l {
		for _, g := range l {
			if !slices.ContainsFunc(slowLeads(g), func(id int) bool { _, is := left[id]; return is }) {
				delete(left, g.ID)
			}
		}
	}
	if len(left) > 0 {
		return fmt.Sprintf("one comes back to some of %v", left)
	}
	return ""
}

// slowChoose counts in numbers that have no bound.
func slowChoose(g api.Group, live []bool, pick int) []api.Bucket {
	isAlive := func(b api.Bucket) bool {
		if b.Watch == 0 {
			return true
		}
		for port, is := range live {
			if port == b.Watch {
				return is
			}
		}
		return false
	}
	switch g.Kind {
	case 1, 3:
		return g.Buckets
	case 4:
		for _, b := range g.Buckets {
			if isAlive(b) {
				return []api.Bucket{b}
			}
		}
	case 2:
		return slowSelect(g.Buckets, isAlive, pick)
	}
	return nil
}

func slowSelect(l []api.Bucket, isAlive func(api.Bucket) bool, pick int) []api.Bucket {
	var may []api.Bucket
	sum := new(big.Int)
	for _, b := range l {
		if isAlive(b) && b.Weight > 0 {
			may = append(may, b)
			sum.Add(sum, big.NewInt(int64(b.Weight)))
		}
	}
	if len(may) == 0 {
		return nil
	}
	place := new(big.Int).Mod(big.NewInt(int64(pick)), sum) // never below 0
	end := new(big.Int)
	for _, b := range may {
		end.Add(end, big.NewInt(int64(b.Weight)))
		if place.Cmp(end) < 0 {
			return []api.Bucket{b}
		}
	}
	panic("a place behind the sum")
}
