package pred

import (
	"math/bits"

	"drover/api"
)

// row is a number of each field, at the field's place; no mask has a bit at place 0, which is no field's.
type row [api.Dport + 1]uint64

// rowOf is the values of a packet, of which some may be missing, and more be there than there are fields.
func rowOf(vals []uint64) row {
	var r row
	copy(r[:], vals)
	return r
}

// under is the bits of r that a mask has.
func (r row) under(mask row) row {
	for f := range r {
		r[f] &= mask[f]
	}
	return r
}

// with is the bits of both.
func (r row) with(other row) row {
	for f := range r {
		r[f] |= other[f]
	}
	return r
}

// cube is what all of some tests ask; values have no bit that masks don't have, so each cube is written in one way alone.
type cube struct{ masks, values row }

// cubeOf takes tests that are right, of one field at most one.
func cubeOf(tests ...api.Test) cube {
	var c cube
	for _, t := range tests {
		c.masks[t.Field], c.values[t.Field] = t.Mask, t.Value
	}
	return c
}

// tests is the cube as others have it.
func (c cube) tests() api.Cube {
	var l api.Cube
	for f, mask := range c.masks {
		if mask != 0 {
			l = append(l, api.Test{Field: f, Value: c.values[f], Mask: mask})
		}
	}
	return l
}

// has is whether values are in it.
func (c cube) has(values row) bool { return values.under(c.masks) == c.values }

// meets is whether both ask the same wherever both ask.
func (c cube) meets(other cube) bool {
	common := c.masks.under(other.masks)
	return c.values.under(common) == other.values.under(common)
}

// both is what two that meet ask.
func (c cube) both(other cube) cube {
	return cube{c.masks.with(other.masks), c.values.with(other.values)}
}

// without hands on what is left of c, cube by cube.
func (c cube) without(other cube, hand func(cube)) {
	if !c.meets(other) {
		hand(c)
		return
	}
	for f := range c.masks {
		asked := other.masks[f] &^ c.masks[f]
		for asked != 0 {
			bit := uint64(1) << (bits.Len64(asked) - 1)
			asked &^= bit
			c.masks[f] |= bit
			left := c
			left.values[f] |= bit &^ other.values[f]
			hand(left)
			// What comes behind asks this bit as the other one does.
			c.values[f] |= bit & other.values[f]
		}
	}
}

// Whole is whether a cube is whole.
func Whole(c api.Cube) bool {
	last := 0
	for _, t := range c {
		if !rightTest(t) || t.Mask == 0 || t.Field <= last {
			return false
		}
		last = t.Field
	}
	return true
}

// In is whether values are in a cube; false, if it isn't whole.
func In(c api.Cube, vals []uint64) bool {
	return Whole(c) && cubeOf(c...).has(rowOf(vals))
}

// Meet is what both ask, and whether they meet.
func Meet(a, b api.Cube) (api.Cube, bool) {
	if !Whole(a) || !Whole(b) {
		return nil, false
	}
	first, second := cubeOf(a...), cubeOf(b...)
	if !first.meets(second) {
		return nil, false
	}
	return first.both(second).tests(), true
}

// Cut is what is left of a without b; none, if one isn't whole.
func Cut(a, b api.Cube) []api.Cube {
	if !Whole(a) || !Whole(b) {
		return nil
	}
	var left []api.Cube
	cubeOf(a...).without(cubeOf(b...), func(c cube) { left = append(left, c.tests()) })
	return left
}

// Pick is values that are in a cube, by their fields; none, if it isn't whole.
func Pick(c api.Cube) []uint64 {
	if !Whole(c) {
		return nil
	}
	values := cubeOf(c...).values
	return values[:]
}
