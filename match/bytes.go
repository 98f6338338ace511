package match

import (
	"slices"
	"strings"

	"drover/api"
	"drover/field"
	"drover/nums"
)

const (
	kind     = 1      // what a match's bytes begin with
	headSize = 4      // the bytes ahead of the first test
	class    = 0x8000 // what a test's bytes begin with
	step     = 8      // a match's bytes are a multiple of so many
)

// codes are the fields' numbers in bytes; those of ports hang on the Proto that is asked for.
var codes = [...]struct{ field, proto, code int }{
	{api.InPort, 0, 0},
	{api.Meta, 0, 2},
	{api.EthType, 0, 5},
	{api.Vlan, 0, 6},
	{api.Proto, 0, 10},
	{api.Src, 0, 11},
	{api.Dst, 0, 12},
	{api.Sport, tcp, 13},
	{api.Dport, tcp, 14},
	{api.Sport, udp, 15},
	{api.Dport, udp, 16},
}

// Encode is a match as bytes.
func Encode(tests ...api.Test) (string, api.Errno) {
	if e := Right(tests...); e != api.OK {
		return "", e
	}
	body := ""
	for i, t := range tests {
		body += encodeBehind(t, tests[:i]...)
	}
	size := headSize + len(body)
	return put(kind, 2) + put(uint64(size), 2) + body + strings.Repeat("\x00", padded(size)-size), api.OK
}

// Decode is the match that bytes begin with, and how many bytes that are.
func Decode(data string) ([]api.Test, int, api.Errno) {
	if len(data) < headSize {
		return nil, 0, api.ErrEnd
	}
	said := saidSize(data)
	size := padded(said)
	switch {
	case len(data) < size:
		return nil, 0, api.ErrEnd
	case said < headSize:
		return nil, 0, api.ErrBytes
	}
	tests := read(data[headSize:said])
	// The reading looks at nothing that does not tell the tests; that all is as it must be shows when they are written again.
	again, e := Encode(tests...)
	if e != api.OK || again != data[:size] {
		return nil, 0, api.ErrBytes
	}
	return tests, size, api.OK
}

// encodeBehind is the bytes of a test that stands behind others, all of them right.
func encodeBehind(t api.Test, ahead ...api.Test) string {
	head := uint64(2 * codeBehind(t.Field, ahead...))
	size := bytesOf(t.Field)
	rest := put(t.Value, size)
	if !isWhole(t) {
		head++
		rest += put(t.Mask, size)
	}
	return put(class, 2) + put(head, 1) + put(uint64(len(rest)), 1) + rest
}

// codeBehind is a field's code, if its test stands behind others, all of them right.
func codeBehind(f int, ahead ...api.Test) int {
	for _, c := range codes {
		if c.field == f && (c.proto == 0 || slices.Contains(ahead, whole(api.Proto, uint64(c.proto)))) {
			return c.code
		}
	}
	return 0
}

// read is the tests that bytes would be of, if they are those of tests.
func read(body string) []api.Test {
	var tests []api.Test
	r := nums.Read(body)
	for r.Left() > 0 {
		tests = append(tests, readTest(r))
	}
	return tests
}

// readTest leaves nothing to read, if there is no such field or too few bytes.
func readTest(r *nums.Reader) api.Test {
	r.Num(2)
	head := r.Num(1)
	r.Num(1)
	t := api.Test{Field: fieldOf(int(head / 2))}
	size := bytesOf(t.Field)
	t.Value = r.Num(size)
	t.Mask = greatest(t.Field)
	if head%2 == 1 {
		t.Mask = r.Num(size)
	}
	return t
}

// fieldOf is the field that has a code; 0: none has.
func fieldOf(code int) int {
	for _, c := range codes {
		if c.code == code {
			return c.field
		}
	}
	return 0
}

// bytesOf is how many bytes hold a field's bits.
func bytesOf(f int) int { return (field.Width(f) + 7) / 8 }

// saidSize is how many bytes there are up to the last test, as they say it themselves.
func saidSize(data string) int {
	r := nums.Read(data)
	r.Num(2)
	return int(r.Num(2))
}

// padded is the least multiple of step that is not below n.
func padded(n int) int { return (n + step - 1) / step * step }

// put is for numbers that fit, so that nothing can be wrong.
func put(n uint64, size int) string {
	s, _ := nums.Put(n, size)
	return s
}
