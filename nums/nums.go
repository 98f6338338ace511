// Package nums is layer 1: see shared/doc/01-nums.md.
package nums

import "drover/api"

// maxSize is how many bytes a uint64 has at most.
const maxSize = 8

// Put is a number in so many bytes, the highest one first.
func Put(n uint64, size int) (string, api.Errno) {
	// A shift by all 64 bits leaves 0, so that every number fits into eight bytes.
	if !isSize(size) || n>>(8*size) != 0 {
		return "", api.ErrArg
	}
	b := make([]byte, size)
	for i := range b {
		b[size-1-i] = byte(n >> (8 * i))
	}
	return string(b), api.OK
}

// Reader takes bytes up.
type Reader struct {
	left  string // nothing, once something is wrong
	wrong api.Errno
}

// Read is one of bytes.
func Read(data string) *Reader { return &Reader{left: data} }

// Num is the number of the next bytes, the highest one first.
func (r *Reader) Num(size int) uint64 {
	return number(r.take(size, isSize(size)))
}

// Bytes is the next bytes.
func (r *Reader) Bytes(n int) string {
	return r.take(n, n >= 0)
}

// Left is how many bytes are left.
func (r *Reader) Left() int {
	if r == nil {
		return 0
	}
	return len(r.left)
}

// End is what was wrong, or that there is more.
func (r *Reader) End() api.Errno {
	switch {
	case r == nil:
		return api.ErrNil
	case r.wrong != api.OK:
		return r.wrong
	case r.left != "":
		return api.ErrMore
	}
	return api.OK
}

// take is the next n bytes; may tells whether n is one that may be asked for.
func (r *Reader) take(n int, may bool) string {
	switch {
	case r == nil || r.wrong != api.OK:
		return ""
	case !may:
		r.fail(api.ErrArg)
		return ""
	case n > len(r.left):
		r.fail(api.ErrEnd)
		return ""
	}
	next := r.left[:n]
	r.left = r.left[n:]
	return next
}

// fail forgets the bytes, too: nobody can ask for them any more.
func (r *Reader) fail(e api.Errno) {
	r.left, r.wrong = "", e
}

func isSize(size int) bool { return size >= 1 && size <= maxSize }

// number goes by bytes, not by runes: a text need not be UTF-8.
func number(s string) uint64 {
	var n uint64
	for i := range len(s) {
		n = n<<8 | uint64(s[i])
	}
	return n
}
