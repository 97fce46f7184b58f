// Package octet is layer 1: bytes, read and written within bounds.
package octet

import "tollbar/api"

// widest is how many bytes the greatest number has.
const widest = 8

// Big is a number in so many bytes, the greatest first.
func Big(x uint64, size int) []byte {
	if !fits(size) {
		return nil
	}
	b := make([]byte, size)
	for i := range b {
		b[size-1-i] = byte(x >> (8 * i))
	}
	return b
}

// Least is a number in as few bytes as can be: none of 0.
func Least(x uint64) []byte {
	size := 0
	// A shift by all 64 bits leaves 0, so this ends at the widest number.
	for x>>(8*size) != 0 {
		size++
	}
	return Big(x, size)
}

// Value is the number of bytes, the greatest first; false: it is too great for eight.
func Value(b []byte) (uint64, bool) {
	var x uint64
	for _, c := range b {
		// Not the length decides: noughts may stand ahead of the number.
		if x>>(8*(widest-1)) != 0 {
			return 0, false
		}
		x = x<<8 | uint64(c)
	}
	return x, true
}

// fits tells whether a number may have so many bytes.
func fits(size int) bool { return size >= 1 && size <= widest }

// Window is bytes that are read from the front on.
type Window struct {
	rest []byte    // what wasn't read yet
	err  api.Errno // what went wrong first
}

// Open is a window of bytes.
func Open(b []byte) *Window { return &Window{rest: copied(b)} }

// Left is how many bytes weren't read yet.
func (w *Window) Left() int {
	if w == nil {
		return 0
	}
	return len(w.rest)
}

// Byte reads one.
func (w *Window) Byte() byte { return byte(w.Num(1)) }

// Num reads a number of so many bytes.
func (w *Window) Num(size int) uint64 {
	if w.Err() == api.OK && !fits(size) {
		w.err = api.ErrArg
	}
	// At most eight bytes are never too great a number, so Value can't refuse them.
	x, _ := Value(w.next(size))
	return x
}

// Bytes reads so many.
func (w *Window) Bytes(n int) []byte { return copied(w.next(n)) }

// Sub is a window of the next so many bytes, that are passed by.
func (w *Window) Sub(n int) *Window {
	b := w.Bytes(n)
	return &Window{rest: b, err: w.Err()}
}

// Err is what went wrong first.
func (w *Window) Err() api.Errno {
	if w == nil {
		return api.ErrArg
	}
	return w.err
}

// End is that, or that bytes are left.
func (w *Window) End() api.Errno {
	if err := w.Err(); err != api.OK {
		return err
	}
	if w.Left() > 0 {
		return api.ErrForm
	}
	return api.OK
}

// next reads so many bytes, or none behind an error; they are still the window's own, not to be handed out.
func (w *Window) next(n int) []byte {
	switch {
	case w.Err() != api.OK:
		return nil
	case n < 0:
		w.err = api.ErrArg
		return nil
	case n > len(w.rest):
		w.err = api.ErrShort
		return nil
	}
	b := w.rest[:n]
	w.rest = w.rest[n:]
	return b
}

// copied is the same bytes in new memory.
func copied(b []byte) []byte {
	c := make([]byte, len(b))
	copy(c, b)
	return c
}
