package topo

import (
	"slices"

	"drover/api"
)

// model is the chapter's words once more: it keeps the links alone, and looks through all of them at each call.
type model struct {
	switches int
	links    []api.Link
}

// mayBe is P14.1, word by word.
func (m model) mayBe() bool {
	if m.switches < 1 || m.switches > 32 || len(m.links) > 64 {
		return false
	}
	for i, x := range m.links {
		if m.isWrong(x) {
			return false
		}
		for _, y := range m.links[:i] {
			if share(x, y) {
				return false
			}
		}
	}
	return true
}

func (m model) isWrong(x api.Link) bool {
	if x.A < 1 || x.A > m.switches || x.PortA < 1 || x.PortA > 16 {
		return true
	}
	if x.B == x.A || x.B == 0 || x.B > m.switches || x.B < -64 {
		return true
	}
	if x.B < 0 && x.PortB != 0 || x.B > 0 && (x.PortB < 1 || x.PortB > 16) {
		return true
	}
	return !(0 <= x.Cost && x.Cost <= 1000000000)
}

// share is whether two links have one port of a switch, or one host. A host has but the port 0, which no switch has.
func share(x, y api.Link) bool {
	for _, a := range [][2]int{{x.A, x.PortA}, {x.B, x.PortB}} {
		for _, b := range [][2]int{{y.A, y.PortA}, {y.B, y.PortB}} {
			if a == b {
				return true
			}
		}
	}
	return false
}

func (m model) ports(sw int) []int {
	var l []int
	for _, x := range m.links {
		if x.A == sw {
			l = append(l, x.PortA)
		}
		if x.B == sw && sw > 0 {
			l = append(l, x.PortB)
		}
	}
	slices.Sort(l)
	return l
}

func (m model) peer(sw, port int) [3]int {
	for i, x := range m.links {
		if x.A == sw && x.PortA == port {
			return [3]int{x.B, x.PortB, i + 1}
		}
		if x.B == sw && x.PortB == port && sw > 0 {
			return [3]int{x.A, x.PortA, i + 1}
		}
	}
	return [3]int{}
}

func (m model) hosts() []int {
	var l []int
	for _, x := range m.links {
		if x.B < 0 {
			l = append(l, -x.B)
		}
	}
	slices.Sort(l)
	return l
}

func (m model) home(host int) [2]int {
	for _, x := range m.links {
		if x.B < 0 && -x.B == host {
			return [2]int{x.A, x.PortA}
		}
	}
	return [2]int{}
}

func (m model) cost(link int) float64 {
	if link < 1 || link > len(m.links) {
		return 0
	}
	return m.links[link-1].Cost
}

// reach lets what can be come to grow, link by link, until it grows no more.
func (m model) reach(sw int, down ...int) []int {
	if sw < 1 || sw > m.switches {
		return nil
	}
	l := []int{sw}
	for grows := true; grows; {
		grows = false
		for i, x := range m.links {
			hasA, hasB := slices.Contains(l, x.A), slices.Contains(l, x.B)
			if x.B < 0 || slices.Contains(down, i+1) || hasA == hasB {
				continue
			}
			if hasA {
				l = append(l, x.B)
			} else {
				l = append(l, x.A)
			}
			grows = true
		}
	}
	slices.Sort(l)
	return l
}
