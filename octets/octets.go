// Package octets is layer 1: numbers in bytes (see shared/doc/01-octets.md).
package octets

import (
	"slices"

	"rick/api"
)

// intBytes is how many bytes an Int takes.
const intBytes = 4

// Writer puts numbers, texts and truths one behind the other. Its zero value has nothing yet; a nil one keeps nothing.
type Writer struct {
	written []byte
}

// Num writes the lowest n bytes of v (n held from 1 to 8), the lowest one first.
func (w *Writer) Num(v uint64, n int) {
	if w == nil {
		return
	}
	for i := range held(n) {
		w.written = append(w.written, byte(v>>(8*i)))
	}
}

// Int writes v and 1 in four bytes: so the -1 that stands for "none" everywhere is 0.
func (w *Writer) Int(v int) {
	w.Num(uint64(v)+1, intBytes)
}

// Text writes how many bytes s has, and they.
func (w *Writer) Text(s string) {
	if w == nil {
		return
	}
	w.Int(len(s))
	w.written = append(w.written, s...)
}

// Bool writes a byte 1 or 0.
func (w *Writer) Bool(b bool) {
	if b {
		w.Num(1, 1)
	} else {
		w.Num(0, 1)
	}
}

// Bytes answers all that was written so far.
func (w *Writer) Bytes() []byte {
	if w == nil {
		return nil
	}
	return slices.Clone(w.written)
}

// Reader reads what a Writer wrote, one behind the other. Once it fails it stays so, and has nothing left.
type Reader struct {
	left []byte
	err  api.Errno
}

// Read answers a Reader of b.
func Read(b []byte) *Reader {
	return &Reader{left: slices.Clone(b)}
}

// Num reads a number of n bytes (n held from 1 to 8), the lowest one first.
func (r *Reader) Num(n int) uint64 {
	var v uint64
	for i, b := range r.take(held(n)) {
		v |= uint64(b) << (8 * i)
	}
	return v
}

// Int reads a number from -1 on.
func (r *Reader) Int() int {
	v := r.Num(intBytes)
	if r.Err() != api.OK {
		return 0
	}
	return int(v) - 1
}

// Text reads how many bytes a text has, and it.
func (r *Reader) Text() string {
	n := r.Int()
	if n < 0 {
		r.fail(api.ErrForm)
		return ""
	}
	return string(r.take(n))
}

// Bool reads a byte that has to be 1 or 0.
func (r *Reader) Bool() bool {
	v := r.Num(1)
	if v > 1 {
		r.fail(api.ErrForm)
		return false
	}
	return v == 1
}

// Err answers what went wrong first; OK, if nothing did.
func (r *Reader) Err() api.Errno {
	if r == nil {
		return api.ErrNil
	}
	return r.err
}

// Left answers how many bytes are left.
func (r *Reader) Left() int {
	if r == nil {
		return 0
	}
	return len(r.left)
}

// take answers the next n bytes, and goes on behind them; nothing, if the Reader has failed, or fails by that.
func (r *Reader) take(n int) []byte {
	if r.Err() != api.OK {
		return nil
	}
	if n > len(r.left) {
		r.fail(api.ErrShort)
		return nil
	}
	taken := r.left[:n]
	r.left = r.left[n:]
	return taken
}

// fail keeps what went wrong, and drops what is left: nothing behind a fault can be trusted.
func (r *Reader) fail(e api.Errno) {
	r.err = e
	r.left = nil
}

// held answers how many bytes a number takes: n, but from 1 to 8.
func held(n int) int {
	return min(max(n, 1), 8)
}
