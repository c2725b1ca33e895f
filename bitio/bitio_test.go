package bitio_test

import (
	"fmt"
	"math"
	"strings"
	"testing"

	"hopmesh/api"
	"hopmesh/bitio"
)

const mostBits = 8 * api.MaxData

// pack returns the bytes of a bit string that is written with the digits 0 and 1; blanks are left out.
func pack(digits string) string {
	digits = strings.ReplaceAll(digits, " ", "")
	data := make([]byte, (len(digits)+7)/8)
	for i := range len(digits) {
		data[i/8] |= (digits[i] - '0') << (7 - i%8)
	}
	return string(data)
}

// written reports the bytes and the number of bits of a writer without an error.
func written(t *testing.T, w *bitio.Writer) (string, int) {
	t.Helper()
	s, e := w.Bytes()
	if e != api.OK {
		t.Errorf("Bytes: %v", e)
	}
	return s, w.Bits()
}

// fill writes bits 1.
func fill(w *bitio.Writer, n int) {
	for ; n >= 63; n -= 63 {
		w.Unsigned(63, math.MaxInt)
	}
	if n > 0 {
		w.Unsigned(n, 1<<n-1)
	}
}

// P2.1: the example of the chapter.
func TestExample(t *testing.T) {
	w := bitio.NewWriter()
	w.Unsigned(3, 5)
	w.Signed(4, -1)
	w.Flag(true)
	w.Text(3, "A")
	if s, n := written(t, w); s != "\xbf\x50\x40" || n != 18 {
		t.Errorf("%x %d", s, n)
	}
	r := bitio.NewReader("\xbf\x50\x40")
	if n := r.Unsigned(3); n != 5 {
		t.Error(n)
	}
	if n := r.Signed(4); n != -1 {
		t.Error(n)
	}
	if !r.Flag() {
		t.Error("the flag is not set")
	}
	if s := r.Text(3); s != "A" {
		t.Error(s)
	}
	if r.Left() != 6 || r.Err() != api.OK || r.Close() != api.OK {
		t.Error(r.Left(), r.Err(), r.Close())
	}
}

// P2.1: a new writer has written nothing; after Bytes more can be written.
func TestWriterGoesOn(t *testing.T) {
	w := bitio.NewWriter()
	if s, n := written(t, w); s != "" || n != 0 {
		t.Errorf("%x %d", s, n)
	}
	digits := ""
	for i := range 40 {
		w.Flag(i%3 == 0)
		if i%3 == 0 {
			digits += "1"
		} else {
			digits += "0"
		}
		if s, n := written(t, w); s != pack(digits) || n != i+1 {
			t.Errorf("%x %d, want %x", s, n, pack(digits))
		}
	}
}

// P2.1: numbers of each width, least and greatest, behind 0 to 8 other bits.
func TestWriterNumbers(t *testing.T) {
	for width := 1; width <= 63; width++ {
		for front := range 9 {
			for _, n := range []int{0, 1, 1<<(width-1) - 1, 1 << (width - 1), 1<<width - 1} {
				if n < 0 || n > 1<<width-1 {
					continue
				}
				w := bitio.NewWriter()
				fill(w, front)
				w.Unsigned(width, n)
				digits := strings.Repeat("1", front) + fmt.Sprintf("%0*b", width, n)
				if s, k := written(t, w); s != pack(digits) || k != front+width {
					t.Errorf("Unsigned(%d, %d) behind %d bits: %x %d, want %x", width, n, front, s, k, pack(digits))
				}
			}
		}
	}
}

// P2.1: signed numbers of each width are the unsigned ones modulo 2^w.
func TestWriterSigned(t *testing.T) {
	for width := 2; width <= 63; width++ {
		half := 1 << (width - 1)
		for _, n := range []int{0, 1, half - 1, -1, -2, -half + 1, -half} {
			if n >= half || n < -half {
				continue
			}
			w, v := bitio.NewWriter(), bitio.NewWriter()
			w.Signed(width, n)
			v.Unsigned(width, int(uint(n)&(1<<width-1)))
			s, k := written(t, w)
			if want, _ := written(t, v); s != want || k != width {
				t.Errorf("Signed(%d, %d): %x %d, want %x", width, n, s, k, want)
			}
		}
	}
	w := bitio.NewWriter()
	w.Signed(3, -4)
	w.Signed(3, 3)
	w.Signed(2, -2)
	if s, _ := written(t, w); s != pack("100 011 10") {
		t.Errorf("%x", s)
	}
}

// P2.1: the length of a text has the least width for its limit.
func TestWriterText(t *testing.T) {
	for _, x := range []struct {
		most   int
		s      string
		digits string
	}{
		{1, "", "0"},
		{1, "A", "1 01000001"},
		{2, "", "00"},
		{3, "A\xff", "10 01000001 11111111"},
		{4, "\x00", "001 00000000"},
		{7, "", "000"},
		{8, "", "0000"},
		{255, "A", "00000001 01000001"},
		{256, "A", "000000001 01000001"},
		{4095, "A", "000000000001 01000001"},
	} {
		w := bitio.NewWriter()
		w.Text(x.most, x.s)
		bits := len(strings.ReplaceAll(x.digits, " ", ""))
		if s, n := written(t, w); s != pack(x.digits) || n != bits {
			t.Errorf("Text(%d, %q): %x %d, want %x %d", x.most, x.s, s, n, pack(x.digits), bits)
		}
	}
	long := strings.Repeat("hopmesh", 585)
	w := bitio.NewWriter()
	w.Flag(true)
	w.Text(4095, long)
	w.Unsigned(3, 0)
	digits := "1111111111111"
	for i := range len(long) {
		digits += fmt.Sprintf("%08b", long[i])
	}
	if s, n := written(t, w); s != pack(digits+"000") || n != 16+8*4095 {
		t.Errorf("%d bits, %d bytes", n, len(s))
	}
}

// P2.1: each error of a field, and which one goes ahead.
func TestWriterErrors(t *testing.T) {
	for _, x := range []struct {
		name  string
		write func(w *bitio.Writer)
		want  api.Errno
	}{
		{"width 0", func(w *bitio.Writer) { w.Unsigned(0, 0) }, api.ErrArg},
		{"width 64", func(w *bitio.Writer) { w.Unsigned(64, 0) }, api.ErrArg},
		{"width 65", func(w *bitio.Writer) { w.Unsigned(65, 1) }, api.ErrArg},
		{"width -1", func(w *bitio.Writer) { w.Unsigned(-1, 0) }, api.ErrArg},
		{"least width", func(w *bitio.Writer) { w.Unsigned(math.MinInt, -1) }, api.ErrArg},
		{"greatest width", func(w *bitio.Writer) { w.Unsigned(math.MaxInt, 1) }, api.ErrArg},
		{"width ahead of number", func(w *bitio.Writer) { w.Unsigned(0, -1) }, api.ErrArg},
		{"unsigned -1", func(w *bitio.Writer) { w.Unsigned(3, -1) }, api.ErrRange},
		{"unsigned 2", func(w *bitio.Writer) { w.Unsigned(1, 2) }, api.ErrRange},
		{"unsigned 2^62", func(w *bitio.Writer) { w.Unsigned(62, 1<<62) }, api.ErrRange},
		{"unsigned least number", func(w *bitio.Writer) { w.Unsigned(63, math.MinInt) }, api.ErrRange},
		{"unsigned greatest number", func(w *bitio.Writer) { w.Unsigned(62, math.MaxInt) }, api.ErrRange},
		{"signed width 0", func(w *bitio.Writer) { w.Signed(0, 0) }, api.ErrArg},
		{"signed width 1", func(w *bitio.Writer) { w.Signed(1, 0) }, api.ErrArg},
		{"signed width 64", func(w *bitio.Writer) { w.Signed(64, 0) }, api.ErrArg},
		{"signed least width", func(w *bitio.Writer) { w.Signed(math.MinInt, 5) }, api.ErrArg},
		{"signed greatest width", func(w *bitio.Writer) { w.Signed(math.MaxInt, 5) }, api.ErrArg},
		{"signed 2", func(w *bitio.Writer) { w.Signed(2, 2) }, api.ErrRange},
		{"signed -3", func(w *bitio.Writer) { w.Signed(2, -3) }, api.ErrRange},
		{"signed 2^62", func(w *bitio.Writer) { w.Signed(63, 1<<62) }, api.ErrRange},
		{"signed -2^62 - 1", func(w *bitio.Writer) { w.Signed(63, -1<<62-1) }, api.ErrRange},
		{"signed least number", func(w *bitio.Writer) { w.Signed(63, math.MinInt) }, api.ErrRange},
		{"limit 0", func(w *bitio.Writer) { w.Text(0, "") }, api.ErrArg},
		{"limit -1", func(w *bitio.Writer) { w.Text(-1, "") }, api.ErrArg},
		{"limit 4096", func(w *bitio.Writer) { w.Text(4096, "") }, api.ErrArg},
		{"greatest limit", func(w *bitio.Writer) { w.Text(math.MaxInt, "") }, api.ErrArg},
		{"limit ahead of length", func(w *bitio.Writer) { w.Text(0, "A") }, api.ErrArg},
		{"text of 2", func(w *bitio.Writer) { w.Text(1, "ab") }, api.ErrTooLarge},
		{"text of 3", func(w *bitio.Writer) { w.Text(2, "abc") }, api.ErrTooLarge},
		{"text of 4096", func(w *bitio.Writer) { w.Text(4095, strings.Repeat("a", 4096)) }, api.ErrTooLarge},
	} {
		w := bitio.NewWriter()
		w.Unsigned(5, 21)
		x.write(w)
		if s, e := w.Bytes(); s != "" || e != x.want || w.Bits() != 5 {
			t.Errorf("%s: %x %v %d", x.name, s, e, w.Bits())
		}
	}
}

// P2.1: the first error is kept, and nothing more is written.
func TestWriterFirstError(t *testing.T) {
	for _, x := range []struct {
		write func(w *bitio.Writer)
		want  api.Errno
	}{
		{func(w *bitio.Writer) { w.Unsigned(0, 0) }, api.ErrArg},
		{func(w *bitio.Writer) { w.Signed(2, 5) }, api.ErrRange},
		{func(w *bitio.Writer) { w.Text(1, "ab") }, api.ErrTooLarge},
	} {
		w := bitio.NewWriter()
		w.Text(3, "abc")
		x.write(w)
		w.Unsigned(3, 1)
		w.Signed(3, 1)
		w.Flag(true)
		w.Text(3, "d")
		w.Unsigned(64, 0)
		w.Signed(2, -3)
		w.Text(2, "abc")
		w.Text(0, "")
		if s, e := w.Bytes(); s != "" || e != x.want || w.Bits() != 26 {
			t.Errorf("%x %v %d, want %v", s, e, w.Bits(), x.want)
		}
	}
}

// P2.1: a writer takes 8 * MaxData bits, and not one more.
func TestWriterFull(t *testing.T) {
	text := func(w *bitio.Writer) { w.Text(3, "A") } // 10 bits
	for _, x := range []struct {
		name  string
		bits  int
		write func(w *bitio.Writer)
	}{
		{"flag", 1, func(w *bitio.Writer) { w.Flag(true) }},
		{"unsigned", 63, func(w *bitio.Writer) { w.Unsigned(63, 1) }},
		{"signed", 2, func(w *bitio.Writer) { w.Signed(2, -1) }},
		{"text", 10, text},
		{"empty text", 12, func(w *bitio.Writer) { w.Text(4095, "") }},
	} {
		for less := range x.bits + 1 {
			w := bitio.NewWriter()
			fill(w, mostBits-less)
			x.write(w)
			s, e := w.Bytes()
			if less == x.bits && (e != api.OK || len(s) != api.MaxData || w.Bits() != mostBits) {
				t.Errorf("%s does not fit: %v %d", x.name, e, w.Bits())
			}
			if less < x.bits && (e != api.ErrTooLarge || s != "" || w.Bits() != mostBits-less) {
				t.Errorf("%s with room for %d bits: %v %d", x.name, less, e, w.Bits())
			}
		}
	}
}

// P2.1: the width and the range of a number go ahead of the room for it.
func TestWriterFullErrors(t *testing.T) {
	for _, x := range []struct {
		write func(w *bitio.Writer)
		want  api.Errno
	}{
		{func(w *bitio.Writer) { w.Unsigned(64, 0) }, api.ErrArg},
		{func(w *bitio.Writer) { w.Unsigned(3, 8) }, api.ErrRange},
		{func(w *bitio.Writer) { w.Signed(1, 0) }, api.ErrArg},
		{func(w *bitio.Writer) { w.Signed(3, 4) }, api.ErrRange},
		{func(w *bitio.Writer) { w.Text(4096, "") }, api.ErrArg},
		{func(w *bitio.Writer) { w.Text(1, "") }, api.ErrTooLarge},
	} {
		w := bitio.NewWriter()
		fill(w, mostBits)
		x.write(w)
		if _, e := w.Bytes(); e != x.want {
			t.Errorf("%v, want %v", e, x.want)
		}
	}
}

// P2.2: numbers of each width, behind 0 to 8 other bits, up to the end.
func TestReaderNumbers(t *testing.T) {
	for width := 1; width <= 63; width++ {
		for front := range 9 {
			for _, n := range []int{0, 1, 1 << (width - 1), 1<<width - 1} {
				data := pack(strings.Repeat("1", front) + fmt.Sprintf("%0*b", width, uint(n)))
				r := bitio.NewReader(data)
				for range front {
					r.Flag()
				}
				if k := r.Unsigned(width); k != n || r.Err() != api.OK || r.Left() != 8*len(data)-front-width {
					t.Errorf("Unsigned(%d) behind %d bits: %d %v %d, want %d", width, front, k, r.Err(), r.Left(), n)
				}
			}
		}
	}
}

// P2.2: signed numbers of each width.
func TestReaderSigned(t *testing.T) {
	for width := 2; width <= 63; width++ {
		half := 1 << (width - 1)
		for _, n := range []int{0, 1, half - 1, -1, -half, -half + 1} {
			digits := fmt.Sprintf("%0*b", width, uint(n)&(1<<width-1))
			r := bitio.NewReader(pack(digits))
			if k := r.Signed(width); k != n || r.Close() != api.OK {
				t.Errorf("Signed(%d): %d %v, want %d", width, k, r.Close(), n)
			}
		}
	}
}

// P2.2: flags and texts.
func TestReaderFlagAndText(t *testing.T) {
	r := bitio.NewReader(pack("0 1 11 01100001 01100010 11111111 0 000000000001 00000000"))
	if r.Flag() || !r.Flag() {
		t.Error("wrong flags")
	}
	if s := r.Text(3); s != "ab\xff" {
		t.Errorf("%q", s)
	}
	if s := r.Text(1); s != "" || r.Err() != api.OK {
		t.Errorf("%q %v", s, r.Err())
	}
	if s := r.Text(4095); s != "\x00" || r.Left() != 7 || r.Close() != api.OK {
		t.Errorf("%q %d %v", s, r.Left(), r.Close())
	}
}

// P2.2: each error of a field, and which one goes ahead; then nothing is left.
func TestReaderErrors(t *testing.T) {
	for _, x := range []struct {
		name, digits string
		read         func(r *bitio.Reader) bool
		want         api.Errno
	}{
		{"width 0", "11111111", func(r *bitio.Reader) bool { return r.Unsigned(0) == 0 }, api.ErrArg},
		{"width 64", "", func(r *bitio.Reader) bool { return r.Unsigned(64) == 0 }, api.ErrArg},
		{"width -1", "11111111", func(r *bitio.Reader) bool { return r.Unsigned(-1) == 0 }, api.ErrArg},
		{"least width", "11111111", func(r *bitio.Reader) bool { return r.Unsigned(math.MinInt) == 0 }, api.ErrArg},
		{"greatest width", "11111111", func(r *bitio.Reader) bool { return r.Unsigned(math.MaxInt) == 0 }, api.ErrArg},
		{"unsigned short", "11111111", func(r *bitio.Reader) bool { return r.Unsigned(9) == 0 }, api.ErrShort},
		{"unsigned at the end", "", func(r *bitio.Reader) bool { return r.Unsigned(1) == 0 }, api.ErrShort},
		{"signed width 0", "11111111", func(r *bitio.Reader) bool { return r.Signed(0) == 0 }, api.ErrArg},
		{"signed width 1", "11111111", func(r *bitio.Reader) bool { return r.Signed(1) == 0 }, api.ErrArg},
		{"signed width 64", "11111111", func(r *bitio.Reader) bool { return r.Signed(64) == 0 }, api.ErrArg},
		{"signed least width", "", func(r *bitio.Reader) bool { return r.Signed(math.MinInt) == 0 }, api.ErrArg},
		{"signed greatest width", "", func(r *bitio.Reader) bool { return r.Signed(math.MaxInt) == 0 }, api.ErrArg},
		{"signed short", "11111111", func(r *bitio.Reader) bool { return r.Signed(9) == 0 }, api.ErrShort},
		{"flag", "", func(r *bitio.Reader) bool { return !r.Flag() }, api.ErrShort},
		{"limit 0", "11111111", func(r *bitio.Reader) bool { return r.Text(0) == "" }, api.ErrArg},
		{"limit -1", "11111111", func(r *bitio.Reader) bool { return r.Text(-1) == "" }, api.ErrArg},
		{"limit 4096", "", func(r *bitio.Reader) bool { return r.Text(4096) == "" }, api.ErrArg},
		{"least limit", "", func(r *bitio.Reader) bool { return r.Text(math.MinInt) == "" }, api.ErrArg},
		{"greatest limit", "", func(r *bitio.Reader) bool { return r.Text(math.MaxInt) == "" }, api.ErrArg},
		{"short for the length", "00000000", func(r *bitio.Reader) bool { return r.Text(256) == "" }, api.ErrShort},
		{"short for the bytes", "01000000", func(r *bitio.Reader) bool { return r.Text(2) == "" }, api.ErrShort},
		{"short for the last bit", "11110000", func(r *bitio.Reader) bool { return r.Unsigned(3) == 7 && r.Unsigned(6) == 0 }, api.ErrShort},
		{"length", "11000000 00000000 00000000 00000000", func(r *bitio.Reader) bool { return r.Text(2) == "" }, api.ErrRange},
		{"length ahead of bytes", "11000000", func(r *bitio.Reader) bool { return r.Text(2) == "" }, api.ErrRange},
		{"length 4095", "11111111 11110000", func(r *bitio.Reader) bool { return r.Text(4094) == "" }, api.ErrRange},
	} {
		r := bitio.NewReader(pack(x.digits))
		if !x.read(r) || r.Err() != x.want || r.Left() != 0 || r.Close() != x.want {
			t.Errorf("%s: %v %d %v, want %v", x.name, r.Err(), r.Left(), r.Close(), x.want)
		}
	}
}

// P2.2: the bytes of a text are there, or all but one bit of them.
func TestReaderTextShort(t *testing.T) {
	r := bitio.NewReader(pack("000000 10 01000001 01000010"))
	if r.Unsigned(6) != 0 || r.Text(2) != "AB" || r.Left() != 0 || r.Close() != api.OK {
		t.Error(r.Close())
	}
	r = bitio.NewReader(pack("0000000 10 01000001 0100001"))
	if r.Unsigned(7) != 0 || r.Text(2) != "" || r.Left() != 0 || r.Close() != api.ErrShort {
		t.Error(r.Close())
	}
}

// P2.2: the first error is kept, and nothing more is read.
func TestReaderFirstError(t *testing.T) {
	for _, x := range []struct {
		read func(r *bitio.Reader)
		want api.Errno
	}{
		{func(r *bitio.Reader) { r.Unsigned(0) }, api.ErrArg},
		{func(r *bitio.Reader) { r.Unsigned(63) }, api.ErrShort},
		{func(r *bitio.Reader) { r.Text(6) }, api.ErrRange},
	} {
		r := bitio.NewReader("\xff\xff\xff")
		x.read(r)
		if r.Unsigned(1) != 0 || r.Signed(2) != 0 || r.Flag() || r.Text(7) != "" {
			t.Error("something was read after an error")
		}
		if r.Unsigned(64) != 0 || r.Signed(-5) != 0 || r.Text(0) != "" || r.Text(-5) != "" || r.Text(1) != "" {
			t.Error("something was read with a wrong width")
		}
		if r.Left() != 0 || r.Err() != x.want || r.Close() != x.want {
			t.Errorf("%d %v %v, want %v", r.Left(), r.Err(), r.Close(), x.want)
		}
	}
}

// P2.2: a reader takes strings of MaxData bytes, and not one more.
func TestReaderLong(t *testing.T) {
	data := strings.Repeat("\xff", api.MaxData)
	r := bitio.NewReader(data)
	if r.Left() != mostBits || r.Err() != api.OK || r.Unsigned(63) != math.MaxInt || r.Left() != mostBits-63 {
		t.Error(r.Left(), r.Err())
	}
	r = bitio.NewReader(data + "\x00")
	if r.Left() != 0 || r.Err() != api.ErrTooLarge || r.Close() != api.ErrTooLarge {
		t.Error(r.Left(), r.Err(), r.Close())
	}
	if r.Unsigned(1) != 0 || r.Unsigned(0) != 0 || r.Text(0) != "" || r.Err() != api.ErrTooLarge {
		t.Error(r.Err())
	}
}

// P2.3: at most 7 bits may be left, and they have to be 0.
func TestReaderClose(t *testing.T) {
	for _, x := range []struct {
		digits string
		read   int
		want   api.Errno
	}{
		{"", 0, api.OK},
		{"00000000", 0, api.ErrCorrupt},
		{"10000000", 1, api.OK},
		{"10000001", 1, api.ErrCorrupt},
		{"11000000", 1, api.ErrCorrupt},
		{"11111110", 7, api.OK},
		{"11111111", 7, api.ErrCorrupt},
		{"11111111", 8, api.OK},
		{"11111111 00000000", 8, api.ErrCorrupt},
		{"11111111 10000000", 9, api.OK},
		{"11111110 00000000", 7, api.ErrCorrupt},
	} {
		r := bitio.NewReader(pack(x.digits))
		for range x.read {
			r.Flag()
		}
		left := r.Left()
		for range 2 {
			if e := r.Close(); e != x.want || r.Err() != api.OK || r.Left() != left {
				t.Errorf("%s after %d bits: %v %v %d, want %v", x.digits, x.read, e, r.Err(), r.Left(), x.want)
			}
		}
	}
	r := bitio.NewReader("\x01\x80")
	if r.Close() != api.ErrCorrupt || r.Unsigned(8) != 1 || r.Close() != api.ErrCorrupt || !r.Flag() || r.Close() != api.OK {
		t.Error("Close has changed something")
	}
}

// P2.4
func TestWidth(t *testing.T) {
	for _, x := range [][2]int{{math.MinInt, 0}, {-1, 0}, {0, 1}, {1, 1}, {2, 2}, {3, 2}, {4, 3}, {4095, 12}, {4096, 13}, {math.MaxInt, 63}} {
		if n := bitio.Width(x[0]); n != x[1] {
			t.Errorf("Width(%d) = %d, want %d", x[0], n, x[1])
		}
	}
	for width := 1; width <= 62; width++ {
		if n := bitio.Width(1<<width - 1); n != width {
			t.Error(width, n)
		}
		if n := bitio.Width(1 << width); n != width+1 {
			t.Error(width, n)
		}
	}
}

// field writes a field, or checks that a reader reads it.
type field struct {
	kind, size, n int
	s             string
}

// fields returns fields that follow from a number.
func fields(seed uint64) []field {
	next := func(n int) int {
		seed = seed*6364136223846793005 + 1442695040888963407
		return int(seed>>33) % n
	}
	var l []field
	for range next(30) {
		f := field{kind: next(4)}
		switch f.kind {
		case 0:
			f.size = 1 + next(63)
			f.n = int(seed >> (64 - f.size))
		case 1:
			f.size = 2 + next(62)
			f.n = int(seed) >> (64 - f.size)
		case 2:
			f.n = next(2)
		case 3:
			f.size = 1 + next(40)
			f.s = strings.Repeat(string(rune(next(1<<15))), 1+next(5))
			f.s = f.s[:min(len(f.s), f.size)]
		}
		l = append(l, f)
	}
	return l
}

func (f field) write(w *bitio.Writer) {
	switch f.kind {
	case 0:
		w.Unsigned(f.size, f.n)
	case 1:
		w.Signed(f.size, f.n)
	case 2:
		w.Flag(f.n == 1)
	case 3:
		w.Text(f.size, f.s)
	}
}

func (f field) read(r *bitio.Reader) bool {
	switch f.kind {
	case 0:
		return r.Unsigned(f.size) == f.n
	case 1:
		return r.Signed(f.size) == f.n
	case 2:
		return r.Flag() == (f.n == 1)
	}
	return r.Text(f.size) == f.s
}

// P2.5: what was written is read.
func TestWrittenIsRead(t *testing.T) {
	for seed := range uint64(2000) {
		l := fields(seed)
		w := bitio.NewWriter()
		for _, f := range l {
			f.write(w)
		}
		s, n := written(t, w)
		r := bitio.NewReader(s)
		for i, f := range l {
			if !f.read(r) || r.Err() != api.OK {
				t.Fatalf("seed %d: the field %d, %v, is not read: %v", seed, i, f, r.Err())
			}
		}
		if r.Close() != api.OK || r.Left() != 8*len(s)-n {
			t.Errorf("seed %d: %v, %d bits are left of %d", seed, r.Close(), r.Left(), n)
		}
	}
}

// P2.5: bytes that are read with Close being OK are those that are written.
func TestReadIsWritten(t *testing.T) {
	accepted := 0
	for n := range 1 << 16 {
		for _, data := range []string{string([]byte{byte(n >> 8), byte(n)}), string([]byte{byte(n >> 8), byte(n), 0xa0}), string([]byte{byte(n)})} {
			r := bitio.NewReader(data)
			a, b, c, d := r.Unsigned(3), r.Signed(2), r.Flag(), r.Text(2)
			if r.Close() != api.OK {
				continue
			}
			accepted++
			w := bitio.NewWriter()
			w.Unsigned(3, a)
			w.Signed(2, b)
			w.Flag(c)
			w.Text(2, d)
			if s, _ := written(t, w); s != data {
				t.Fatalf("%x is read, and written as %x", data, s)
			}
		}
	}
	if accepted == 0 {
		t.Error("nothing is accepted")
	}
}

// P1: no call panics, whatever widths, limits and numbers there are, in whatever state.
func TestAllArguments(t *testing.T) {
	numbers := []int{math.MinInt, math.MinInt + 1, -1 << 62, -4096, -64, -2, -1, 0, 1, 2, 62, 63, 64, 65, 4095, 4096, 1 << 62, math.MaxInt - 1, math.MaxInt}
	texts := []string{"", "a", "\x00\xff", strings.Repeat("x", 4095), strings.Repeat("x", 4096), strings.Repeat("\xff", api.MaxData+1)}
	for _, a := range numbers {
		for _, b := range numbers {
			w := bitio.NewWriter()
			w.Unsigned(a, b)
			w.Signed(b, a)
			w, r := bitio.NewWriter(), bitio.NewReader(strings.Repeat("\xff", 20))
			w.Signed(a, b)
			w.Flag(true)
			r.Unsigned(a)
			r.Signed(b)
			r.Text(a)
		}
		for _, s := range texts {
			w, r := bitio.NewWriter(), bitio.NewReader(s)
			w.Text(a, s)
			if _, e := w.Bytes(); (e == api.OK) != (a >= 1 && a <= 4095 && len(s) <= a) {
				t.Errorf("Text(%d, %d bytes): %v", a, len(s), e)
			}
			r.Text(a)
			r.Signed(a)
			r.Close()
			bitio.Width(a)
		}
	}
}
