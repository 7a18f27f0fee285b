// Package lay is layer 1: see shared/doc/01-lay.md.
package lay

import "allotment/api"

// width is how many bytes a number has.
const width = 8

// fresh is b in memory of its own: a piece without any room makes append
// take new memory even where nothing is put behind b later.
func fresh(b []byte) []byte { return append(b[:0:0], b...) }

// number puts n's bytes behind own, which must be memory of this package.
func number(own []byte, n uint64) []byte {
	for range width {
		own = append(own, byte(n))
		n >>= 8
	}
	return own
}

// Uint puts a number's bytes behind others.
func Uint(b []byte, n uint64) []byte { return number(fresh(b), n) }

// Ints puts numbers' bytes behind others.
func Ints(b []byte, l ...int) []byte {
	own := fresh(b)
	for _, n := range l {
		own = number(own, uint64(n))
	}
	return own
}

// Bytes puts a text's bytes behind others.
func Bytes(b, s []byte) []byte {
	return append(number(fresh(b), uint64(len(s))), s...)
}

// Reader reads bytes.
type Reader struct {
	rest  []byte // none behind an error, so that nothing is read any more
	errno api.Errno
}

// Read is a reader of bytes. They are copied, as whoever handed them in may
// change them while they are read.
func Read(b []byte) *Reader { return &Reader{rest: fresh(b)} }

func (r *Reader) fail() { r.rest, r.errno = nil, api.ErrForm }

// take is the next n bytes, of which there must be so many. They are the
// reader's own memory still.
func (r *Reader) take(n int) []byte {
	b := r.rest[:n]
	r.rest = r.rest[n:]
	return b
}

// Uint is the next number.
func (r *Reader) Uint() uint64 {
	if len(r.rest) < width {
		r.fail()
		return 0
	}
	var n uint64
	for i, x := range r.take(width) {
		n |= uint64(x) << (8 * i)
	}
	return n
}

// Int is the next number.
func (r *Reader) Int() int { return int(r.Uint()) }

// Bytes is the next text.
func (r *Reader) Bytes(most int) []byte {
	n := r.Uint()
	if r.errno != api.OK {
		return nil
	}
	// Compared without a sign: a length of 2^63 and more must not look small.
	if most < 0 || n > uint64(most) || n > uint64(len(r.rest)) {
		r.fail()
		return nil
	}
	return fresh(r.take(int(n)))
}

// Left is how many bytes are left.
func (r *Reader) Left() int { return len(r.rest) }

// Errno is the error.
func (r *Reader) Errno() api.Errno { return r.errno }

// End is the error, bytes that are left one, too.
func (r *Reader) End() api.Errno {
	if len(r.rest) > 0 {
		return api.ErrForm
	}
	return r.errno
}
