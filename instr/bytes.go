package instr

import (
	"drover/act"
	"drover/api"
	"drover/nums"
)

const (
	headSize  = 4                  // the bytes that say which part it is, and how many bytes it has
	leastSize = 8                  // the fewest bytes that a part has
	gap       = "\x00\x00\x00\x00" // fills the bytes up to a multiple of eight
)

// The parts' numbers in bytes.
const (
	gotoPart = iota + 1
	metaPart
	writePart
	applyPart
	clearPart
	meterPart
)

// order is the one in which the parts stand, which is the one in which a switch does them.
var order = [...]int{meterPart, applyPart, clearPart, writePart, metaPart, gotoPart}

// Encode is what an entry does as bytes.
func Encode(x api.Entry) (string, api.Errno) {
	if e := Right(x); e != api.OK {
		return "", e
	}
	s := ""
	for _, part := range order {
		s += write(part, x)
	}
	return s, api.OK
}

// Decode is what an entry of a table does, as bytes say it.
func Decode(table int, data string) (api.Entry, api.Errno) {
	if !isTable(table) {
		return api.Entry{}, api.ErrTable
	}
	x, e := readAll(table, data)
	if e == api.OK {
		e = Right(x)
	}
	if e != api.OK {
		return api.Entry{}, e
	}
	return x, api.OK
}

// readAll is the entry that the parts say, which need not be right.
func readAll(table int, data string) (api.Entry, api.Errno) {
	x := api.Entry{Table: table}
	last := 0
	for data != "" {
		size, e := firstSize(data)
		if e != api.OK {
			return api.Entry{}, e
		}
		part := int(nums.Read(data).Num(2))
		x = read(part, data[:size], x)
		// The reading looks at nothing that does not tell the entry; that all is as it must be shows when it is written again.
		if write(part, x) != data[:size] {
			return api.Entry{}, api.ErrBytes
		}
		if place(part) <= last {
			return api.Entry{}, api.ErrInstr
		}
		last = place(part)
		data = data[size:]
	}
	return x, api.OK
}

// firstSize is how many bytes the first part has.
func firstSize(data string) (int, api.Errno) {
	if len(data) < headSize {
		return 0, api.ErrEnd
	}
	size := int(nums.Read(data[2:headSize]).Num(2))
	switch {
	case len(data) < size:
		return 0, api.ErrEnd
	case size < leastSize:
		return 0, api.ErrBytes
	}
	return size, api.OK
}

// place is where a part stands among the others, from 1 on; 0: there is no such part.
func place(part int) int {
	for i, p := range order {
		if p == part {
			return i + 1
		}
	}
	return 0
}

// write is the bytes of a part of an entry; none, if the entry does nothing of the kind.
func write(part int, x api.Entry) string {
	if !has(part, x) {
		return ""
	}
	b := body(part, x)
	return put(uint64(part), 2) + put(uint64(headSize+len(b)), 2) + b
}

// has tells whether there is something of a part in an entry.
func has(part int, x api.Entry) bool {
	switch part {
	case meterPart:
		return x.Meter != 0
	case applyPart:
		return len(x.Apply) > 0
	case clearPart:
		return x.Clear
	case writePart:
		return len(x.Write) > 0
	case metaPart:
		return x.MetaMask != 0
	case gotoPart:
		return x.Goto != 0
	}
	return false
}

// body is what stands behind a part's head.
func body(part int, x api.Entry) string {
	switch part {
	case meterPart:
		return put(uint64(x.Meter), 4)
	case applyPart:
		return gap + actions(x.Apply...)
	case clearPart:
		return gap
	case writePart:
		return gap + actions(x.Write...)
	case metaPart:
		return gap + put(x.Meta, 8) + put(x.MetaMask, 8)
	case gotoPart:
		return put(uint64(x.Goto), 1) + gap[1:]
	}
	return ""
}

// read is an entry with what the bytes of a part would say of it, if they are those of such a part.
func read(part int, data string, x api.Entry) api.Entry {
	r := nums.Read(data[headSize:])
	switch part {
	case meterPart:
		x.Meter = int(r.Num(4))
	case applyPart:
		// Where act tells an error there is no action, and no part without one is written again.
		x.Apply, _ = act.Decode(data[leastSize:])
	case clearPart:
		x.Clear = true
	case writePart:
		x.Write, _ = act.Decode(data[leastSize:])
	case metaPart:
		r.Num(4)
		x.Meta = r.Num(8)
		x.MetaMask = r.Num(8)
	case gotoPart:
		x.Goto = int(r.Num(1))
	}
	return x
}

// actions is for those that are right, so that nothing can be wrong.
func actions(l ...api.Action) string {
	s, _ := act.Encode(l...)
	return s
}

// put is for numbers that fit, so that nothing can be wrong.
func put(n uint64, size int) string {
	s, _ := nums.Put(n, size)
	return s
}
