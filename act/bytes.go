package act

import (
	"strings"

	"drover/api"
	"drover/field"
	"drover/nums"
)

const (
	maxActions = 32     // of one list of bytes
	headSize   = 4      // the bytes that say which Kind an action is of, and how many bytes it has
	leastSize  = 8      // the fewest bytes that an action has
	numberSize = 4      // the bytes of a port or a group
	noLimit    = 0xffff // behind an Output's port
	tagType    = 0x8100 // what a Push says of the tag
	class      = 0x8000 // what stands ahead of a Set's field
)

// kinds are the Kinds' numbers in bytes, and how many bytes an action of each has.
var kinds = [...]struct{ kind, number, size int }{
	{api.Output, 0x00, 16},
	{api.ToGroup, 0x16, 8},
	{api.Push, 0x11, 8},
	{api.Pop, 0x12, 8},
	{api.Set, 0x19, 16},
}

// codes are the numbers in bytes of the fields that a Set may be of.
var codes = [...]struct{ field, code int }{
	{api.Vlan, 6},
	{api.Src, 11},
	{api.Dst, 12},
	{api.Sport, 13},
	{api.Dport, 14},
}

// Encode is actions as bytes.
func Encode(l ...api.Action) (string, api.Errno) {
	switch {
	case !allRight(l...):
		return "", api.ErrAct
	case len(l) > maxActions:
		return "", api.ErrBig
	}
	s := ""
	for _, a := range l {
		s += write(a)
	}
	return s, api.OK
}

// Decode is the actions that bytes are.
func Decode(data string) ([]api.Action, api.Errno) {
	var l []api.Action
	for data != "" {
		a, size, e := decodeFirst(data)
		if e != api.OK {
			return nil, e
		}
		data = data[size:]
		// One too many is enough to tell that there are; what is wrong behind it is told ahead of that.
		if len(l) <= maxActions {
			l = append(l, a)
		}
	}
	if len(l) > maxActions {
		return nil, api.ErrBig
	}
	return l, api.OK
}

// decodeFirst is the action that bytes begin with, and how many bytes it has.
func decodeFirst(data string) (api.Action, int, api.Errno) {
	if len(data) < headSize {
		return api.Action{}, 0, api.ErrEnd
	}
	size := int(nums.Read(data[2:headSize]).Num(2))
	switch {
	case len(data) < size:
		return api.Action{}, 0, api.ErrEnd
	case size < leastSize:
		return api.Action{}, 0, api.ErrBytes
	}
	a := read(data[:size])
	// The reading looks at nothing that does not tell the action; that all is as it must be shows when it is written again.
	if !Right(a) || write(a) != data[:size] {
		return api.Action{}, 0, api.ErrBytes
	}
	return a, size, api.OK
}

func allRight(l ...api.Action) bool {
	for _, a := range l {
		if !Right(a) {
			return false
		}
	}
	return true
}

// write is the bytes of an action that is right.
func write(a api.Action) string {
	for _, k := range kinds {
		if k.kind == a.Kind {
			s := put(uint64(k.number), 2) + put(uint64(k.size), 2) + body(a)
			return s + strings.Repeat("\x00", k.size-len(s))
		}
	}
	return ""
}

// body is what stands behind the head, up to the bytes 00 that fill an action's bytes up.
func body(a api.Action) string {
	switch a.Kind {
	case api.Output:
		return put(a.Value, numberSize) + put(noLimit, 2)
	case api.ToGroup:
		return put(a.Value, numberSize)
	case api.Push:
		return put(tagType, 2)
	case api.Set:
		size := bytesOf(a.Field)
		return put(class, 2) + put(uint64(2*codeOf(a.Field)), 1) + put(uint64(size), 1) + put(a.Value, size)
	}
	return ""
}

// read is the action that bytes would be of, if they are those of one.
func read(data string) api.Action {
	r := nums.Read(data)
	a := api.Action{Kind: kindOf(int(r.Num(2)))}
	r.Num(2)
	switch a.Kind {
	case api.Output, api.ToGroup:
		a.Value = r.Num(numberSize)
	case api.Set:
		r.Num(2)
		a.Field = fieldOf(int(r.Num(1) / 2))
		r.Num(1)
		a.Value = r.Num(bytesOf(a.Field))
	}
	return a
}

// kindOf is the Kind that has a number; 0: none has.
func kindOf(number int) int {
	for _, k := range kinds {
		if k.number == number {
			return k.kind
		}
	}
	return 0
}

// codeOf is a field's code; 0: it has none.
func codeOf(f int) int {
	for _, c := range codes {
		if c.field == f {
			return c.code
		}
	}
	return 0
}

// fieldOf is the field that has a code; 0: none has.
func fieldOf(code int) int {
	for _, c := range codes {
		if c.code == code {
			return c.field
		}
	}
	return 0
}

// bytesOf is how many bytes hold a field's bits.
func bytesOf(f int) int { return (field.Width(f) + 7) / 8 }

// put is for numbers that fit, so that nothing can be wrong.
func put(n uint64, size int) string {
	s, _ := nums.Put(n, size)
	return s
}
