// Package octets is layer 1: numbers and rows of bytes, as bytes.
package octets

import (
	"bytes"

	"bottomry/api"
)

const (
	widest    = 8 // bytes of the longest number
	rowWidth  = 4 // bytes of a row's length
	manyWidth = 2 // bytes of a count
)

// Reader reads bytes.
type Reader struct {
	rest []byte
	err  api.Errno
}

// Put appends a number.
func Put(b []byte, v uint64, n int) []byte {
	if !isWidth(n) {
		return bytes.Clone(b)
	}
	var all [widest]byte
	for i := range all {
		all[i] = byte(v >> (8 * (widest - 1 - i)))
	}
	// Without the third index the number might be written into room behind b that is the caller's.
	return append(b[:len(b):len(b)], all[widest-n:]...)
}

// Row appends a row.
func Row(b []byte, row []byte) []byte {
	return append(Put(b, uint64(len(row)), rowWidth), row...)
}

// Read reads from the beginning on.
func Read(b []byte) *Reader {
	// The caller may change b later: what is read is what b was now.
	return &Reader{rest: bytes.Clone(b)}
}

// Number reads a number.
func (r *Reader) Number(n int) uint64 {
	if !isWidth(n) {
		r.fail(api.ErrForm)
		return 0
	}
	var v uint64
	for _, x := range r.take(n) {
		v = v<<8 | uint64(x)
	}
	return v
}

// Range reads a number with its sign.
func (r *Reader) Range(n int, low, high int64) int64 {
	u := r.Number(n)
	if r.failed() {
		return 0
	}
	above := 8 * (widest - n)
	v := int64(u<<above) >> above
	if v < low || v > high {
		r.fail(api.ErrRange)
		return 0
	}
	return v
}

// Row reads a row.
func (r *Reader) Row(most int) []byte {
	n := r.upTo(rowWidth, most, api.ErrLong)
	return bytes.Clone(r.take(n))
}

// Fixed reads n bytes.
func (r *Reader) Fixed(n int) []byte {
	return bytes.Clone(r.take(n))
}

// Count reads how many there are.
func (r *Reader) Count(most int) int {
	return r.upTo(manyWidth, most, api.ErrMany)
}

// End asks whether all was read.
func (r *Reader) End() api.Errno {
	switch {
	case r == nil:
		return api.ErrArg
	case r.err != api.OK:
		return r.err
	case len(r.rest) > 0:
		return api.ErrForm
	}
	return api.OK
}

// isWidth tells whether a number may have n bytes.
func isWidth(n int) bool {
	return n == 1 || n == 2 || n == 4 || n == 8
}

func (r *Reader) failed() bool {
	return r == nil || r.err != api.OK
}

// fail keeps the first error alone: End tells that one.
func (r *Reader) fail(e api.Errno) {
	if r.failed() {
		return
	}
	r.err = e
	r.rest = nil
}

// take goes on by n bytes; they are the reader's own, not to be handed out.
func (r *Reader) take(n int) []byte {
	if r.failed() || n < 0 || n > len(r.rest) {
		r.fail(api.ErrForm)
		return nil
	}
	front := r.rest[:n]
	r.rest = r.rest[n:]
	return front
}

// upTo is a number of n bytes (less than 8) that isn't above most.
func (r *Reader) upTo(n, most int, beyond api.Errno) int {
	v := int64(r.Number(n))
	if v > int64(most) {
		r.fail(beyond)
		return 0
	}
	return int(v)
}
