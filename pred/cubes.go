package pred

import "drover/api"

// Cubes is the cubes of a predicate, of which no two meet.
func Cubes(p api.Pred) ([]api.Cube, api.Errno) {
	list, err := listOf(p)
	if err != api.OK {
		return nil, err
	}
	answer := make([]api.Cube, len(list))
	for i, c := range list {
		answer[i] = c.tests()
	}
	return answer, api.OK
}

// Disjoint is whether no cube of p meets one of q.
func Disjoint(p, q api.Pred) (bool, api.Errno) {
	// Of a p that is too big and a q that isn't right the latter is told.
	if !Right(p) || !Right(q) {
		return false, api.ErrArg
	}
	first, err := listOf(p)
	if err != api.OK {
		return false, err
	}
	second, err := listOf(q)
	if err != api.OK {
		return false, err
	}
	disjoint := true
search:
	for _, a := range first {
		for _, b := range second {
			if a.meets(b) {
				disjoint = false
				break search
			}
		}
	}
	return disjoint, api.OK
}

// listOf is the cubes of the last node.
func listOf(p api.Pred) ([]cube, api.Errno) {
	if !Right(p) {
		return nil, api.ErrArg
	}
	var lists [][]cube
	// A node to which the last one does not lead may be too big, too.
	for _, n := range p.Nodes {
		var parts [][]cube
		for _, sub := range n.Subs {
			parts = append(parts, lists[sub])
		}
		list, err := nodeList(n, parts...)
		if err != api.OK {
			return nil, err
		}
		lists = append(lists, list)
	}
	return lists[len(lists)-1], api.OK
}

// nodeList is the cubes of one node, out of those of its parts.
func nodeList(n api.PredNode, parts ...[]cube) ([]cube, api.Errno) {
	switch n.Kind {
	case api.Every:
		return []cube{{}}, api.OK
	case api.Is:
		return []cube{cubeOf(n.Test)}, api.OK
	case api.And:
		return andList(parts...)
	case api.Or:
		return orList(parts...)
	case api.Not:
		return leftOf([]cube{{}}, parts[0])
	}
	return nil, api.OK
}

func andList(parts ...[]cube) ([]cube, api.Errno) {
	list := []cube{{}}
	for _, part := range parts {
		var next []cube
		for _, a := range list {
			for _, b := range part {
				if a.meets(b) {
					next = append(next, a.both(b))
				}
			}
		}
		if len(next) > api.MaxCubes {
			return nil, api.ErrBig
		}
		list = next
	}
	return list, api.OK
}

func orList(parts ...[]cube) ([]cube, api.Errno) {
	var list []cube
	for _, part := range parts {
		left, err := leftOf(part, list)
		if err != api.OK {
			return nil, err
		}
		list = append(list, left...)
		if len(list) > api.MaxCubes {
			return nil, api.ErrBig
		}
	}
	return list, api.OK
}

// leftOf is what is left of the cubes of a list without those of another one, one behind the other.
func leftOf(list, gone []cube) ([]cube, api.Errno) {
	for _, b := range gone {
		var left []cube
		for _, a := range list {
			a.without(b, func(c cube) { left = append(left, c) })
		}
		if len(left) > api.MaxCubes {
			return nil, api.ErrBig
		}
		list = left
	}
	return list, api.OK
}
