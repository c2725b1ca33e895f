// Package bitio writes and reads bit strings: see shared/doc/02-bitio.md.
package bitio

import (
	"math/bits"

	"hopmesh/api"
)

const (
	mostWidth = 63
	mostText  = 4095
	mostBits  = 8 * api.MaxData
)

// Writer writes fields one behind the other.
type Writer struct {
	data []byte
	bits int
	err  api.Errno
}

// NewWriter returns a writer that has written nothing.
func NewWriter() *Writer { return &Writer{} }

// Unsigned writes an unsigned field.
func (w *Writer) Unsigned(width, n int) {
	w.number(1, width, n, func() bool { return n >= 0 && n>>width == 0 })
}

// Signed writes a signed field.
func (w *Writer) Signed(width, n int) {
	w.number(2, width, n, func() bool { return n>>(width-1) == 0 || n>>(width-1) == -1 })
}

// Flag writes one bit.
func (w *Writer) Flag(set bool) {
	n := 0
	if set {
		n = 1
	}
	w.Unsigned(1, n)
}

// number writes a number. Whether it fits is only asked if the width is right: a shift by a wrong one would panic.
func (w *Writer) number(least, width, n int, fits func() bool) {
	switch {
	case w.err != api.OK:
	case width < least || width > mostWidth:
		w.fail(api.ErrArg)
	case !fits():
		w.fail(api.ErrRange)
	case w.bits+width > mostBits:
		w.fail(api.ErrTooLarge)
	default:
		w.put(width, n)
	}
}

// Text writes a text with a limit.
func (w *Writer) Text(most int, s string) {
	width := Width(most)
	switch {
	case w.err != api.OK:
	case most < 1 || most > mostText:
		w.fail(api.ErrArg)
	case len(s) > most || w.bits+width+8*len(s) > mostBits:
		w.fail(api.ErrTooLarge)
	default:
		w.put(width, len(s))
		divide(s, w.put)
	}
}

// divide passes on the bytes of a string, each as a field.
func divide(s string, put func(width, n int)) {
	for i := range len(s) {
		put(8, int(s[i]))
	}
}

// put writes the lowest bits of a number, for which there is room.
func (w *Writer) put(width, n int) {
	for i := range width {
		if w.bits%8 == 0 {
			w.data = append(w.data, 0)
		}
		bit := byte(n>>(width-1-i)) & 1
		w.data[w.bits/8] |= bit << (7 - w.bits%8)
		w.bits++
	}
}

// fail keeps the first error. What was written is not needed any more, only how much it was.
func (w *Writer) fail(e api.Errno) { w.err, w.data = e, nil }

// Bits returns how many bits were written.
func (w *Writer) Bits() int { return w.bits }

// Bytes returns the bytes of what was written, or the first error.
func (w *Writer) Bytes() (string, api.Errno) { return string(w.data), w.err }

// Reader reads fields one behind the other.
type Reader struct {
	data string
	next int // the index of the next bit
	err  api.Errno
}

// NewReader returns a reader of the bits of a string.
func NewReader(data string) *Reader {
	if len(data) > api.MaxData {
		return &Reader{err: api.ErrTooLarge}
	}
	return &Reader{data: data}
}

// Unsigned reads an unsigned field.
func (r *Reader) Unsigned(width int) int { return r.number(1, width) }

// Signed reads a signed field.
func (r *Reader) Signed(width int) int {
	n := r.number(2, width)
	if r.err != api.OK {
		return 0
	}
	above := bits.UintSize - width
	return n << above >> above
}

// Flag reads one bit.
func (r *Reader) Flag() bool { return r.Unsigned(1) == 1 }

// number reads a number, without its sign.
func (r *Reader) number(least, width int) int {
	switch {
	case width < least || width > mostWidth:
		r.fail(api.ErrArg)
	case r.Left() < width:
		r.fail(api.ErrShort)
	default:
		return r.take(width)
	}
	return 0
}

// Text reads a text with a limit.
func (r *Reader) Text(most int) string {
	if most < 1 || most > mostText {
		r.fail(api.ErrArg)
		return ""
	}
	n := r.Unsigned(Width(most))
	switch {
	case n > most:
		r.fail(api.ErrRange)
	case r.Left() < 8*n:
		r.fail(api.ErrShort)
	default:
		return join(n, r.take)
	}
	return ""
}

// join puts the bytes of a string together, each from a field.
func join(n int, take func(width int) int) string {
	s := make([]byte, n)
	for i := range s {
		s[i] = byte(take(8))
	}
	return string(s)
}

// take reads as many bits as are known to be left.
func (r *Reader) take(width int) int {
	n := 0
	for range width {
		bit := r.data[r.next/8] >> (7 - r.next%8) & 1
		n = n<<1 | int(bit)
		r.next++
	}
	return n
}

// fail keeps the first error, and leaves nothing to read: every later field fails, too.
func (r *Reader) fail(e api.Errno) {
	if r.err == api.OK {
		*r = Reader{err: e}
	}
}

// Left returns how many bits were not read.
func (r *Reader) Left() int { return 8*len(r.data) - r.next }

// Err returns the first error.
func (r *Reader) Err() api.Errno { return r.err }

// Close returns the first error, or ErrCorrupt if something is left.
func (r *Reader) Close() api.Errno {
	if r.err != api.OK {
		return r.err
	}
	rest := *r
	if rest.Left() >= 8 || rest.take(rest.Left()) != 0 {
		return api.ErrCorrupt
	}
	return api.OK
}

// Width returns the least width with which a number up to most can be written.
func Width(most int) int {
	if most < 0 {
		return 0
	}
	return max(1, bits.Len(uint(most)))
}
