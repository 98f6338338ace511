package device

import (
	"testing"

	"drover/api"
	"drover/wire"
)

func kindOf(kind int, l ...api.Bucket) api.Group { return api.Group{ID: 9, Kind: kind, Buckets: l} }

// P13.2: Command 0.
func TestGroupModAdd(t *testing.T) {
	d := device(t, 4, 4, 3)
	checkRefused(t, d, groupMod(0, all(1, to(2))), 6, 8)
	checkRefused(t, d, groupMod(0, all(1, to(1))), 6, 8)
	checkTaken(t, d, groupMod(0, all(1, output(3))))
	checkRefused(t, d, groupMod(0, all(1)), 6, 0)
	checkRefused(t, d, groupMod(0, all(1, to(1))), 6, 0)
	checkTaken(t, d, groupMod(0, all(65535, to(1), output(2))))
	checkTaken(t, d, groupMod(0, api.Group{ID: 3, Kind: api.Select}))
	checkRefused(t, d, groupMod(0, all(4)), 6, 3)
	checkRefused(t, d, groupMod(0, all(3)), 6, 0)        // ahead of that it is full
	checkRefused(t, d, groupMod(0, all(4, to(5))), 6, 8) // likewise
	checkState(t, "added", d, groupMod(0, all(1, output(3))), groupMod(0, api.Group{ID: 3, Kind: api.Select}), groupMod(0, all(65535, to(1), output(2))))
}

// P13.2: groups that wire lets through and group does not.
func TestGroupModWrong(t *testing.T) {
	d := device(t, 4, 4, 3, groupMod(0, all(9, output(1))))
	for _, g := range []api.Group{
		kindOf(api.Indirect), kindOf(api.Indirect, api.Bucket{}, api.Bucket{}), kindOf(api.Failover, api.Bucket{}), kindOf(api.Failover, api.Bucket{Watch: 1}, api.Bucket{Watch: 0}),
		kindOf(api.All, api.Bucket{Watch: 17}), kindOf(api.Select, api.Bucket{Watch: 65535}), kindOf(api.All, api.Bucket{Watch: 17, Actions: list(to(7))}),
	} {
		checkRefused(t, d, groupMod(0, g), 6, 1) // ahead of that it is there
		checkRefused(t, d, groupMod(1, g), 6, 1)
		other := g
		other.ID = 8
		checkRefused(t, d, groupMod(0, other), 6, 1)
		checkRefused(t, d, groupMod(1, other), 6, 1)
	}
	// A port need not be one of the switch, and may be dead.
	checkTaken(t, d, groupMod(1, kindOf(api.Failover, api.Bucket{Watch: 16}, api.Bucket{Watch: 1})), groupMod(1, kindOf(api.Select, api.Bucket{Watch: 16, Weight: 65535})))
	// To delete one, its number is enough.
	checkTaken(t, d, groupMod(2, kindOf(api.Indirect)))
	checkState(t, "deleted", d)
}

// P13.2: Command 1.
func TestGroupModModify(t *testing.T) {
	d := device(t, 4, 4, 3)
	checkRefused(t, d, groupMod(1, all(1)), 6, 8)
	checkTaken(t, d, groupMod(0, all(1)), groupMod(0, all(2, to(1))), groupMod(0, all(3, to(2))), flowMod(0, write(1, to(1))))
	checkRefused(t, d, groupMod(1, all(1, to(9))), 6, 8)
	checkRefused(t, d, groupMod(1, all(9)), 6, 8)
	checkRefused(t, d, groupMod(1, all(1, to(1))), 6, 7)
	checkRefused(t, d, groupMod(1, all(1, to(2))), 6, 7)
	checkRefused(t, d, groupMod(1, all(1, output(1), to(3))), 6, 7)
	one := api.Group{ID: 1, Kind: api.Failover, Buckets: []api.Bucket{{Watch: 2, Weight: 3, Actions: list(output(2))}}}
	checkTaken(t, d, groupMod(1, one), groupMod(1, all(3, to(1))))
	checkState(t, "modified", d, groupMod(0, one), groupMod(0, all(2, to(1))), groupMod(0, all(3, to(1))), flowMod(0, write(1, to(1))))
	checkTaken(t, d, groupMod(1, all(2, to(3))))
}

// P13.2: Command 2.
func TestGroupModDelete(t *testing.T) {
	d := device(t, 4, 4, 3, groupMod(0, all(1)), groupMod(0, all(2, to(1))), groupMod(0, all(3)))
	checkRefused(t, d, groupMod(2, all(9)), 6, 8)
	checkRefused(t, d, groupMod(2, all(1)), 6, 7)
	checkTaken(t, d, groupMod(2, all(3, to(60)))) // just its number counts
	checkState(t, "without 3", d, groupMod(0, all(1)), groupMod(0, all(2, to(1))))
	checkRefused(t, d, groupMod(2, all(3)), 6, 8)
	checkTaken(t, d, groupMod(2, all(2)), groupMod(2, all(1)))
	checkState(t, "without any", d)
	checkTaken(t, d, groupMod(0, all(7)), groupMod(0, all(8)), groupMod(0, all(9)))
	checkState(t, "there is room again", d, groupMod(0, all(7)), groupMod(0, all(8)), groupMod(0, all(9)))
}

// several are entries of several tables with groups 1 and 2, one of them, and none.
func several() []api.Entry {
	return []api.Entry{
		{Priority: 9, Write: list(to(1))},
		{Priority: 8, Apply: list(output(1), to(1))},
		{Priority: 8, Tests: []api.Test{inPort(1)}, Apply: list(to(2)), Write: list(push, to(1))},
		{Priority: 7, Apply: list(to(1)), Write: list(to(2))},
		{Priority: 7, Tests: []api.Test{inPort(1)}, Apply: list(to(1), to(2))},
		{Priority: 6, Apply: list(to(2))},
		{Priority: 5, Write: list(to(2))},
		{Priority: 4, Apply: list(output(1), set(api.Src, 1)), Write: list(output(1))},
		{Priority: 1},
		{Table: 1, Priority: 9, Write: list(to(1))},
		{Table: 1, Priority: 9, Tests: []api.Test{inPort(1)}},
		{Table: 7, Priority: 1, Write: list(output(1))},
		{Table: 7, Priority: 0, Write: list(to(2), to(1), output(2))},
	}
}

func picked(l []api.Entry, places ...int) []api.Entry {
	var some []api.Entry
	for _, i := range places {
		some = append(some, l[i])
	}
	return some
}

// P13.2: with a group that is deleted its entries are, and no others; with one that is not, or is modified, none.
func TestGroupModDeletesEntries(t *testing.T) {
	groups := []wire.Message{groupMod(0, all(1)), groupMod(0, all(2)), groupMod(0, all(3, to(2)))}
	begin := func() *Device { return device(t, 4, 16, 4, append(groups, flowMods(several()...)...)...) }
	d := begin()
	checkState(t, "all", d, append(groups, flowMods(several()...)...)...)
	checkRefused(t, d, groupMod(2, all(2)), 6, 7)
	checkTaken(t, d, groupMod(1, all(1, output(1))), groupMod(1, all(1)), groupMod(2, all(3)))
	checkState(t, "all entries stay", d, append(groups[:2:2], flowMods(several()...)...)...)
	d = begin()
	checkTaken(t, d, groupMod(2, all(1)))
	checkState(t, "without 1", d, append(groups[1:3:3], flowMods(picked(several(), 5, 6, 7, 8, 10, 11)...)...)...)
	d = begin()
	checkTaken(t, d, groupMod(2, all(3)), groupMod(2, all(2)))
	checkState(t, "without 2", d, append(groups[:1:1], flowMods(picked(several(), 0, 1, 7, 8, 9, 10, 11)...)...)...)
	checkTaken(t, d, groupMod(2, all(1)))
	checkState(t, "without any", d, flowMods(picked(several(), 7, 8, 10, 11)...)...)
	// There is room for others then.
	checkTaken(t, d, groupMod(0, all(1)), flowMod(0, several()[0]))
	checkState(t, "with 1 again", d, append(groups[:1:1], flowMods(picked(several(), 0, 7, 8, 10, 11)...)...)...)
}
