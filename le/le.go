// Package le is layer 1: whole numbers as bytes, the lowest byte first, and a reader that goes over bytes and never past their end.
package le

import (
	"bytes"
	"math"

	"octavo/api"
)

// widest is the most bytes that a number may have.
const widest = 8

// Reader goes over bytes of its own, from a place on.
type Reader struct {
	b     []byte
	place int
}

// Bytes answers n in width bytes.
func Bytes(n, width int) ([]byte, api.Errno) {
	if !isWidth(width) || n < 0 {
		return nil, api.ErrArg
	}
	b := make([]byte, width)
	for i := range b {
		b[i] = byte(n)
		n >>= 8
	}
	if n != 0 {
		return nil, api.ErrRange
	}
	return b, api.OK
}

// Int answers the number of which b is the Bytes.
func Int(b []byte) (int, api.Errno) {
	if !isWidth(len(b)) {
		return 0, api.ErrArg
	}
	// Eight bytes always have room in a uint64, so nothing wraps ahead of the question whether an int has room too.
	var n uint64
	for i, x := range b {
		n |= uint64(x) << (8 * i)
	}
	if n > math.MaxInt {
		return 0, api.ErrRange
	}
	return int(n), api.OK
}

func isWidth(n int) bool { return n >= 1 && n <= widest }

// On answers a reader at the beginning of b, of which it keeps a copy: b may be written over then.
func On(b []byte) *Reader { return &Reader{b: bytes.Clone(b)} }

// Int reads the number of the next width bytes.
func (r *Reader) Int(width int) (int, api.Errno) {
	if !isWidth(width) {
		return 0, api.ErrArg
	}
	b, e := r.ahead(width)
	if e != api.OK {
		return 0, e
	}
	n, e := Int(b)
	if e != api.OK {
		return 0, e
	}
	r.place += width
	return n, api.OK
}

// Take reads the next n bytes.
func (r *Reader) Take(n int) ([]byte, api.Errno) {
	b, e := r.ahead(n)
	if e != api.OK {
		return nil, e
	}
	r.place += n
	return bytes.Clone(b), api.OK
}

// Zeros reads the next n bytes, each of which has to be 0.
func (r *Reader) Zeros(n int) api.Errno {
	b, e := r.ahead(n)
	if e != api.OK {
		return e
	}
	for _, x := range b {
		if x != 0 {
			return api.ErrForm
		}
	}
	r.place += n
	return api.OK
}

// Left answers how many bytes are left.
func (r *Reader) Left() int {
	if r == nil {
		return 0
	}
	return len(r.b) - r.place
}

// Place answers how many bytes were read.
func (r *Reader) Place() int {
	if r == nil {
		return 0
	}
	return r.place
}

// ahead answers the next n bytes without moving, so that a call that finds a fault in them has nothing to take back.
func (r *Reader) ahead(n int) ([]byte, api.Errno) {
	if r == nil || n < 0 {
		return nil, api.ErrArg
	}
	if n > r.Left() {
		return nil, api.ErrShort
	}
	return r.b[r.place : r.place+n], api.OK
}
