// Package codec is layer 1: see shared/doc/01-codec.md.
package codec

import "cellarage/api"

const (
	widest = 8 // bytes of the widest integer
	head   = 4 // bytes of a string's length
)

// Put returns b followed by the many lowest bytes of n, the most significant
// one first.
func Put(b []byte, n uint64, many int) []byte {
	many = min(max(many, 0), widest)
	return appendNumber(withRoom(b, many), n, many)
}

// Text returns b followed by the length of s in four bytes, and the bytes of s.
func Text(b []byte, s string) []byte {
	out := appendNumber(withRoom(b, head+len(s)), uint64(len(s)), head)
	return append(out, s...)
}

// withRoom copies b and leaves room for more bytes. It copies because appending
// to b itself could write into its caller's memory behind its length.
func withRoom(b []byte, more int) []byte {
	out := make([]byte, len(b), len(b)+more)
	copy(out, b)
	return out
}

// appendNumber appends the many lowest bytes of n, with many from 0 to 8.
func appendNumber(b []byte, n uint64, many int) []byte {
	for i := many - 1; i >= 0; i-- {
		b = append(b, byte(n>>(8*i)))
	}
	return b
}

// Reader decodes integers and strings, one after the other.
type Reader struct {
	left  []byte // the reader's own bytes, from its position on
	fault api.Errno
}

// New returns a reader of the bytes that b has now; it copies them, so that
// the caller may change b later on.
func New(b []byte) *Reader {
	return &Reader{left: withRoom(b, 0)}
}

// Get decodes an integer of many bytes; 0 if there is an error.
func (r *Reader) Get(many int) uint64 {
	if r == nil || r.fault != api.OK {
		return 0
	}
	if many < 0 || many > widest {
		r.fault = api.ErrArg
		return 0
	}
	if len(r.left) < many {
		r.fault = api.ErrShort
		return 0
	}
	n := value(r.left[:many])
	r.left = r.left[many:]
	return n
}

// Text decodes a string of at most most bytes; the empty one if there is an
// error.
func (r *Reader) Text(most int) string {
	if r == nil || r.fault != api.OK {
		return ""
	}
	if len(r.left) < head {
		r.fault = api.ErrShort
		return ""
	}
	size, rest := value(r.left[:head]), r.left[head:]
	if size > uint64(max(most, 0)) {
		r.fault = api.ErrLong
		return ""
	}
	if size > uint64(len(rest)) {
		r.fault = api.ErrShort
		return ""
	}
	r.left = rest[size:]
	return string(rest[:size])
}

// value is the integer whose bytes those are, the most significant one first.
func value(b []byte) uint64 {
	n := uint64(0)
	for _, c := range b {
		n = n<<8 | uint64(c)
	}
	return n
}

// Left returns the number of bytes from the position on.
func (r *Reader) Left() int {
	if r == nil {
		return 0
	}
	return len(r.left)
}

// Fault returns the first error, or OK.
func (r *Reader) Fault() api.Errno {
	if r == nil {
		return api.OK
	}
	return r.fault
}

// End returns the first error; otherwise ErrTail if bytes are left, which the
// reader does not keep as an error; otherwise OK.
func (r *Reader) End() api.Errno {
	if r.Fault() == api.OK && r.Left() > 0 {
		return api.ErrTail
	}
	return r.Fault()
}
