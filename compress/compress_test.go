package compress_test

import (
	"fmt"
	"math"
	"slices"
	"strings"
	"testing"

	"hopmesh/api"
	"hopmesh/compress"
)

// extremes are numbers that nothing allows.
var extremes = []int{math.MinInt, math.MinInt + 1, -1 << 42, 1 << 42, math.MaxInt - 1, math.MaxInt}

// random returns a function that gives numbers from 0 to most, which follow from a seed.
func random(seed uint64) func(most int) int {
	return func(most int) int {
		seed = seed*6364136223846793005 + 1442695040888963407
		return int(seed>>16) % (most + 1)
	}
}

// co returns a list of contexts.
func co(prefixes ...string) []api.Context {
	var l []api.Context
	for _, p := range prefixes {
		l = append(l, api.Context{Prefix: p})
	}
	return l
}

// base is the header of the chapter's example.
func base() api.Header {
	return api.Header{Limit: 64, Source: "\x0a\x00\x01\x05", Target: "\x0a\x00\x01\x09", Port: 61616, Reply: 61617, Length: 20}
}

// with returns a header that is changed.
func with(change func(h *api.Header)) api.Header {
	h := base()
	change(&h)
	return h
}

// found is Find by its definition, for a list that is valid.
func found(l []api.Context, address string) (int, bool) {
	for n := 4; n > 0; n-- {
		for i, c := range l {
			if c.Prefix == address[:n] {
				return i, true
			}
		}
	}
	return 0, false
}

// bits returns the bits of a header as digits, by the definition.
func bits(l []api.Context, h api.Header) string {
	s := "0"
	if h.Class != 0 {
		s = fmt.Sprintf("1%08b", h.Class)
	}
	switch h.Limit {
	case 1:
		s += "01"
	case 64:
		s += "10"
	case 255:
		s += "11"
	default:
		s += fmt.Sprintf("00%08b", h.Limit)
	}
	for _, a := range []string{h.Source, h.Target} {
		if i, ok := found(l, a); ok {
			s += fmt.Sprintf("1%03b", i)
			a = a[len(l[i].Prefix):]
		} else {
			s += "0"
		}
		for i := range len(a) {
			s += fmt.Sprintf("%08b", a[i])
		}
	}
	switch {
	case h.Port >= 61616 && h.Port <= 61631 && h.Reply >= 61616 && h.Reply <= 61631:
		s += fmt.Sprintf("11%04b%04b", h.Port-61616, h.Reply-61616)
	case h.Port == h.Reply:
		s += fmt.Sprintf("01%016b", h.Port)
	case h.Port >= 61440 && h.Port <= 61695:
		s += fmt.Sprintf("10%08b%016b", h.Port-61440, h.Reply)
	default:
		s += fmt.Sprintf("00%016b%016b", h.Port, h.Reply)
	}
	if h.Length > 63 {
		return s + fmt.Sprintf("1%012b", h.Length)
	}
	return s + fmt.Sprintf("0%06b", h.Length)
}

// pack returns the bytes of a bit string that is written with digits; blanks are left out.
func pack(digits string) string {
	digits = strings.ReplaceAll(digits, " ", "")
	b := make([]byte, (len(digits)+7)/8)
	for i := range len(digits) {
		b[i/8] |= (digits[i] - '0') << (7 - i%8)
	}
	return string(b)
}

// same reports whether a header has the bytes and the number of bits of its definition, and is restored, whatever follows.
func same(t *testing.T, l []api.Context, h api.Header) {
	t.Helper()
	want := bits(l, h)
	s, e := compress.Compress(l, h)
	if s != pack(want) || e != api.OK {
		t.Fatalf("Compress(%q, %+v) = %x %v, want %x", l, h, s, e, pack(want))
	}
	if n, e := compress.Bits(l, h); n != len(want) || e != api.OK {
		t.Fatalf("Bits(%q, %+v) = %d %v, want %d", l, h, n, e, len(want))
	}
	for _, rest := range []string{"", "\x00", "\xff", "payload", s} {
		if g, r, e := compress.Expand(l, s+rest); g != h || r != rest || e != api.OK {
			t.Fatalf("Expand(%q, %x) = %+v %q %v, want %+v", l, s+rest, g, r, e, h)
		}
	}
}

// corrupt reports whether a string does not begin with a header.
func corrupt(t *testing.T, l []api.Context, s string) {
	t.Helper()
	if h, r, e := compress.Expand(l, s); h != (api.Header{}) || r != "" || e != api.ErrCorrupt {
		t.Errorf("Expand(%q, %x) = %+v %q %v", l, s, h, r, e)
	}
}

// wrongHeaders returns headers that are not valid.
func wrongHeaders() []api.Header {
	l := []api.Header{{}}
	for _, a := range []string{"", "\x0a", "\x0a\x00\x01", "\x0a\x00\x01\x05\x06", strings.Repeat("a", 300)} {
		l = append(l, with(func(h *api.Header) { h.Source = a }), with(func(h *api.Header) { h.Target = a }))
	}
	for _, n := range append([]int{-1}, extremes...) {
		l = append(l,
			with(func(h *api.Header) { h.Class = n }), with(func(h *api.Header) { h.Limit = n }), with(func(h *api.Header) { h.Port = n }),
			with(func(h *api.Header) { h.Reply = n }), with(func(h *api.Header) { h.Port, h.Reply = n, n }), with(func(h *api.Header) { h.Length = n }))
	}
	return append(l,
		with(func(h *api.Header) { h.Class = 256 }), with(func(h *api.Header) { h.Limit = 256 }), with(func(h *api.Header) { h.Port = 65536 }),
		with(func(h *api.Header) { h.Reply = 65536 }), with(func(h *api.Header) { h.Port, h.Reply = 65536, 65536 }), with(func(h *api.Header) { h.Length = 4096 }))
}

// wrongContexts returns lists of contexts that are not valid.
func wrongContexts() [][]api.Context {
	return [][]api.Context{
		co(""), co("abcde"), co("a", ""), co("", "a"), co("a", "abcde", "b"), co(strings.Repeat("a", 300)), co("\x0a\x00\x01", ""), co("", "\x0a\x00\x01"),
		co("a", "b", "c", "d", "e", "f", "g", "h", "i"), co("a", "a", "a", "a", "a", "a", "a", "a", "a"), co("a", "b", "c", "d", "e", "f", "g", ""), make([]api.Context, 9), make([]api.Context, 1), make([]api.Context, 1000),
	}
}

// samples returns lists of contexts that are valid.
func samples() [][]api.Context {
	return [][]api.Context{
		nil, {}, co("\x0a\x00\x01"), co("\x0a"), co("\x0a\x00\x01\x05"), co("\x0a", "\x0a\x00"), co("\x0a\x00", "\x0a"), co("\x0a\x00\x01", "\x0a\x00\x01"), co("x", "\x0a\x00\x01\x09", "\x0a\x00\x01", "\x0a\x00\x01\x05"),
		co("a", "b", "c", "d", "e", "f", "g", "\x0a\x00"), co("\x00", "\x00\x00", "\x00\x00\x00", "\x00\x00\x00\x00"), co("\x00\x00\x00\x00", "\x00\x00\x00", "\x00\x00", "\x00"), co("\xff", "\x0a\x00\x01\x05", "\x0a\x00\x01\x05", "\x0a"),
	}
}

// someAddress returns an address of few different bytes, so that contexts fit.
func someAddress(next func(int) int) string {
	b := make([]byte, 4)
	for i := range b {
		b[i] = byte(10 + next(1))
	}
	return string(b)
}

// someHeader returns a valid header, often with one of the numbers that are written short.
func someHeader(next func(int) int) api.Header {
	pick := func(l []int, most int) int {
		if next(2) > 0 {
			return l[next(len(l)-1)]
		}
		return next(most)
	}
	ports := []int{0, 61439, 61440, 61500, 61615, 61616, 61620, 61631, 61632, 61695, 61696, 65535}
	return api.Header{
		Class:  pick([]int{0, 1, 255}, 255),
		Limit:  pick([]int{0, 1, 2, 63, 64, 65, 254, 255}, 255),
		Source: someAddress(next),
		Target: someAddress(next),
		Port:   pick(ports, 65535),
		Reply:  pick(ports, 65535),
		Length: pick([]int{0, 1, 63, 64, 4095}, 4095),
	}
}

// someContexts returns up to a number of contexts, of which some are equal.
func someContexts(next func(int) int, most int) []api.Context {
	var l []api.Context
	for range next(most) {
		l = append(l, api.Context{Prefix: someAddress(next)[:1+next(3)]})
	}
	return l
}

// P14.2: the example of the chapter.
func TestExample(t *testing.T) {
	l := co("\x0a\x00\x01")
	s, e := compress.Compress(l, base())
	if s != pack("0 10 1 000 00000101 1 000 00001001 11 0000 0001 0 010100") || len(s) != 6 || e != api.OK {
		t.Errorf("%x %v", s, e)
	}
	if n, e := compress.Bits(l, base()); n != 44 || e != api.OK {
		t.Error(n, e)
	}
	if h, r, e := compress.Expand(l, s+"rest"); h != base() || r != "rest" || e != api.OK {
		t.Error(h, r, e)
	}
}

// P14.1, P14.2, P1: which headers are valid, and what follows from those that are not.
func TestCheck(t *testing.T) {
	for _, h := range wrongHeaders() {
		if e := compress.Check(h); e != api.ErrArg {
			t.Errorf("Check(%+v) = %v", h, e)
		}
		for _, l := range append(samples(), wrongContexts()...) {
			if s, e := compress.Compress(l, h); s != "" || e != api.ErrArg {
				t.Errorf("Compress(%q, %+v) = %x %v", l, h, s, e)
			}
			if n, e := compress.Bits(l, h); n != 0 || e != api.ErrArg {
				t.Errorf("Bits(%q, %+v) = %d %v", l, h, n, e)
			}
		}
	}
	next := random(1)
	for range 1000 {
		if h := someHeader(next); compress.Check(h) != api.OK {
			t.Errorf("Check(%+v)", h)
		}
	}
}

// P14.1, P14.2, P1: which lists of contexts are valid, and what follows from those that are not.
func TestContexts(t *testing.T) {
	for _, l := range append(samples(), co("a", "bb", "ccc", "dddd", "e", "f", "g", "h"), co("a", "a", "a", "a", "a", "a", "a", "a")) {
		if e := compress.Contexts(l); e != api.OK {
			t.Errorf("Contexts(%q) = %v", l, e)
		}
	}
	for _, l := range wrongContexts() {
		if e := compress.Contexts(l); e != api.ErrArg {
			t.Errorf("Contexts(%q) = %v", l, e)
		}
		if s, e := compress.Compress(l, base()); s != "" || e != api.ErrArg {
			t.Errorf("Compress with %q: %x %v", l, s, e)
		}
		if n, e := compress.Bits(l, base()); n != 0 || e != api.ErrArg {
			t.Errorf("Bits with %q: %d %v", l, n, e)
		}
		for _, s := range []string{"", pack(bits(nil, base())), strings.Repeat("a", api.MaxData), strings.Repeat("a", api.MaxData+1)} {
			if h, r, e := compress.Expand(l, s); h != (api.Header{}) || r != "" || e != api.ErrArg {
				t.Errorf("Expand with %q: %+v %q %v", l, h, r, e)
			}
		}
		for _, a := range []string{base().Source, "aaaa", "abcd", "bbbb", "", "a"} {
			if i, ok := compress.Find(l, a); i != 0 || ok {
				t.Errorf("Find(%q, %q) = %d %v", l, a, i, ok)
			}
		}
	}
}

// P14.1: contexts that are the same, that are the beginning of others, in both orders, and that do not fit.
func TestFind(t *testing.T) {
	for _, x := range []struct {
		l       []api.Context
		address string
		i       int
		ok      bool
	}{
		{nil, "abcd", 0, false},
		{co("b"), "abcd", 0, false},
		{co("b", "a"), "abcd", 1, true},
		{co("a", "ab"), "abcd", 1, true},
		{co("ab", "a"), "abcd", 0, true},
		{co("ab", "a"), "acbd", 1, true},
		{co("ab", "ab"), "abcd", 0, true},
		{co("a", "ab", "ab"), "abcd", 1, true},
		{co("ab", "abcd", "abc", "abcd"), "abcd", 1, true},
		{co("abce"), "abcd", 0, false},
		{co("bcd"), "abcd", 0, false},
		{co("cd", "d", "bcd"), "abcd", 0, false},
		{co("x", "x", "x", "x", "x", "x", "x", "abcd"), "abcd", 7, true},
		{co("\x00"), "\x00\x00\x00\x00", 0, true},
		{co("\x00\xff", "\x00"), "\x00\x00\xff\xff", 1, true},
		{co("a"), "", 0, false},
		{co("a"), "a", 0, false},
		{co("a"), "abc", 0, false},
		{co("a", "abc"), "abc", 0, false},
		{co("b", "a"), "abcde", 0, false},
		{co("b", "abcd"), "abcde", 0, false},
	} {
		if i, ok := compress.Find(x.l, x.address); i != x.i || ok != x.ok {
			t.Errorf("Find(%q, %q) = %d %v", x.l, x.address, i, ok)
		}
	}
	next := random(2)
	for range 5000 {
		l, a := someContexts(next, 8), someAddress(next)
		i, ok := compress.Find(l, a)
		if k, is := found(l, a); i != k || ok != is {
			t.Errorf("Find(%q, %q) = %d %v", l, a, i, ok)
		}
	}
}

// P14.2, P14.4: numbers at the bounds of their short forms.
func TestNumbers(t *testing.T) {
	for _, l := range samples() {
		for _, n := range []int{0, 1, 2, 63, 64, 65, 127, 128, 254, 255} {
			same(t, l, with(func(h *api.Header) { h.Class = n }))
			same(t, l, with(func(h *api.Header) { h.Limit = n }))
			same(t, l, with(func(h *api.Header) { h.Class, h.Limit = n, n }))
		}
		for _, n := range []int{0, 1, 62, 63, 64, 65, 2048, 4094, 4095} {
			same(t, l, with(func(h *api.Header) { h.Length = n }))
		}
	}
}

// P14.2, P14.4: pairs of ports at the bounds of their short forms.
func TestPorts(t *testing.T) {
	ports := []int{0, 1, 61439, 61440, 61441, 61615, 61616, 61617, 61630, 61631, 61632, 61694, 61695, 61696, 65534, 65535}
	for _, port := range ports {
		for _, reply := range ports {
			same(t, co("\x0a\x00\x01"), with(func(h *api.Header) { h.Port, h.Reply = port, reply }))
		}
	}
}

// P14.2, P14.4: addresses with and without a context.
func TestAddresses(t *testing.T) {
	addresses := []string{"\x0a\x00\x01\x05", "\x0a\x00\x01\x09", "\x0a\x00\x02\x05", "\x0a\x01\x01\x05", "\x0b\x00\x01\x05", "\x00\x00\x00\x00", "\xff\xff\xff\xff", "abcd", "gggg"}
	for _, l := range samples() {
		for _, source := range addresses {
			for _, target := range addresses {
				same(t, l, with(func(h *api.Header) { h.Source, h.Target = source, target }))
			}
		}
	}
}

// P14.2, P14.4: random headers and contexts.
func TestRandom(t *testing.T) {
	next := random(3)
	for range 20000 {
		same(t, someContexts(next, 8), someHeader(next))
	}
}

// P14.4: the least and the greatest number of bits.
func TestBits(t *testing.T) {
	least := api.Header{Limit: 1, Source: "abcd", Target: "abcd", Port: 61616, Reply: 61616}
	if n, e := compress.Bits(co("abcd"), least); n != 28 || e != api.OK {
		t.Error(n, e)
	}
	if s, e := compress.Compress(co("abcd"), least); len(s) != 4 || e != api.OK {
		t.Error(s, e)
	}
	most := api.Header{Class: 1, Limit: 2, Source: "abcd", Target: "abcd", Port: 1, Reply: 2, Length: 64}
	if n, e := compress.Bits(co("b"), most); n != 132 || e != api.OK {
		t.Error(n, e)
	}
	if s, e := compress.Compress(nil, most); len(s) != 17 || e != api.OK {
		t.Error(s, e)
	}
	next := random(4)
	for range 20000 {
		l, h := someContexts(next, 8), someHeader(next)
		if n, e := compress.Bits(l, h); n < 28 || n > 132 || e != api.OK {
			t.Errorf("Bits(%q, %+v) = %d %v", l, h, n, e)
		}
	}
}

// P14.4: a further context, at each place, never makes a header longer.
func TestFurtherContext(t *testing.T) {
	next := random(5)
	for range 5000 {
		l, h := someContexts(next, 7), someHeader(next)
		before, _ := compress.Bits(l, h)
		one := api.Context{Prefix: someAddress(next)[:1+next(3)]}
		for i := range len(l) + 1 {
			more := slices.Insert(slices.Clone(l), i, one)
			if n, e := compress.Bits(more, h); n > before || e != api.OK {
				t.Errorf("Bits(%q, %+v) = %d %v, without %q %d", more, h, n, e, one, before)
			}
		}
	}
}

// P14.2: strings that are empty, and cut in each part.
func TestShort(t *testing.T) {
	long := api.Header{Class: 7, Limit: 9, Source: "\x0a\x00\x01\x05", Target: "abcd", Port: 1, Reply: 2, Length: 500}
	for _, l := range samples() {
		corrupt(t, l, "")
		for _, h := range []api.Header{base(), long} {
			s := pack(bits(l, h))
			for n := range len(s) {
				corrupt(t, l, s[:n])
			}
		}
	}
}

// P14.2, P14.4: filling bits that are not 0.
func TestFilling(t *testing.T) {
	next := random(6)
	for range 2000 {
		l, h := someContexts(next, 8), someHeader(next)
		digits := bits(l, h)
		for i := len(digits); i%8 != 0; i++ {
			b := []byte(pack(digits))
			b[i/8] |= 1 << (7 - i%8)
			corrupt(t, l, string(b))
			corrupt(t, l, string(b)+"rest")
		}
	}
}

// P14.2, P14.4: parts that are written longer than Compress writes them, and an index without a context.
func TestLongerForms(t *testing.T) {
	l := co("\x0a\x00\x01", "\x0a\x00", "\x0a\x00\x01", "ab", "abcd")
	source, target := "1 000 00000101", "1 000 00001001"
	tail := " 11 0000 0001 0 010100"
	if h, r, e := compress.Expand(l, pack("0 10"+source+target+tail)); h != base() || r != "" || e != api.OK {
		t.Fatal(h, r, e)
	}
	for _, s := range []string{
		"1 00000000 10" + source + target + tail,                                   // a Class of 0
		"0 00 00000001" + source + target + tail,                                   // the Limit 1
		"0 00 01000000" + source + target + tail,                                   // the Limit 64
		"0 00 11111111" + source + target + tail,                                   // the Limit 255
		"0 10 1 001 00000001 00000101" + target + tail,                             // a context with a shorter Prefix
		"0 10 1 010 00000101" + target + tail,                                      // the same context with a greater index
		"0 10 0 00001010 00000000 00000001 00000101" + target + tail,               // no context
		"0 10" + source + "1 001 00000001 00001001" + tail,                         // the same for Target
		"0 10" + source + "1 010 00001001" + tail,                                  //
		"0 10" + source + "0 00001010 00000000 00000001 00001001" + tail,           //
		"0 10 1 011 01100011 01100100" + target + tail,                             // an address that is a whole context
		"0 10 1 101 00000101" + target + tail,                                      // an index without a context
		"0 10 1 111 00000101" + target + tail,                                      //
		"0 10" + source + "1 101 00001001" + tail,                                  //
		"0 10" + source + "1 111" + tail,                                           //
		"0 10" + source + target + "01 1111000010110000 0 010100",                  // equal ports, both 61616
		"0 10" + source + target + "10 10110000 1111000010110001 0 010100",         // near ports 61616 and 61617
		"0 10" + source + target + "00 1111000010110000 1111000010110001 0 010100", // the same in full
		"0 10" + source + target + "10 00000001 1111000000000001 0 010100",         // equal ports, written as near ones
		"0 10" + source + target + "00 0000000000000001 0000000000000001 0 010100", // equal ports in full
		"0 10" + source + target + "00 1111000000000000 0000000000000001 0 010100", // near ports in full
		"0 10" + source + target + "11 0000 0001 1 000000010100",                   // a Length of 20
		"0 10" + source + target + "11 0000 0001 1 000000111111",                   // a Length of 63
		"0 10" + source + target + "11 0000 0001 1 000000000000",                   // a Length of 0
	} {
		corrupt(t, l, pack(s))
		corrupt(t, l, pack(s)+"rest")
		corrupt(t, l, pack(s)+"\x00\x00\x00\x00\x00\x00\x00\x00\x00\x00")
	}
}

// P14.4: the index 7 is that of the last context; of fewer contexts it names none.
func TestIndices(t *testing.T) {
	all := co("a", "b", "c", "d", "e", "f", "g", "h")
	for n := range 9 {
		for i := range 8 {
			s := pack(fmt.Sprintf("0 01 1%03b", i) + "00000001 00000010 00000011 1 000 00000001 00000010 00000011 11 0000 0000 0 000000")
			if i >= n {
				corrupt(t, all[:n], s)
				continue
			}
			want := api.Header{Limit: 1, Source: all[i].Prefix + "\x01\x02\x03", Target: "a\x01\x02\x03", Port: 61616, Reply: 61616}
			if h, r, e := compress.Expand(all[:n], s); h != want || r != "" || e != api.OK {
				t.Errorf("Expand with %d contexts and the index %d: %+v %q %v", n, i, h, r, e)
			}
		}
	}
}

// P14.2, P14.4: what a random string begins with is a header exactly if Compress returns it.
func TestExpandRandom(t *testing.T) {
	next := random(7)
	accepted := 0
	for range 100000 {
		l := someContexts(next, 8)
		b := make([]byte, next(20))
		for i := range b {
			b[i] = byte(next(255))
		}
		if next(1) == 0 {
			b = []byte(pack(bits(l, someHeader(next))))
			b[next(len(b)-1)] ^= 1 << next(7)
		}
		h, r, e := compress.Expand(l, string(b))
		if e != api.OK {
			corrupt(t, l, string(b))
			continue
		}
		accepted++
		if s, e := compress.Compress(l, h); s+r != string(b) || e != api.OK {
			t.Errorf("Expand(%q, %x) = %+v %q, but Compress returns %x %v", l, b, h, r, s, e)
		}
	}
	if accepted < 1000 {
		t.Errorf("only %d strings are accepted", accepted)
	}
}

// P14.2: strings of MaxData bytes, and of one more.
func TestLongStrings(t *testing.T) {
	s := pack(bits(nil, base()))
	rest := strings.Repeat("r", api.MaxData-len(s))
	if h, r, e := compress.Expand(nil, s+rest); h != base() || r != rest || e != api.OK {
		t.Error(h, len(r), e)
	}
	if h, r, e := compress.Expand(nil, s+rest+"r"); h != (api.Header{}) || r != "" || e != api.ErrTooLarge {
		t.Error(h, len(r), e)
	}
	long := strings.Repeat("\xff", api.MaxData)
	corrupt(t, nil, long)
	if h, r, e := compress.Expand(nil, long+"\xff"); h != (api.Header{}) || r != "" || e != api.ErrTooLarge {
		t.Error(h, len(r), e)
	}
}

// best is Best by its definition.
func best(h []api.Header, most int) []api.Context {
	if most < 1 || most > 8 {
		return nil
	}
	var all []string
	for _, x := range h {
		if compress.Check(x) == api.OK {
			all = append(all, x.Source[:3], x.Target[:3])
		}
	}
	count := func(s string) int {
		n := 0
		for _, x := range all {
			if x == s {
				n++
			}
		}
		return n
	}
	var l []api.Context
	for len(l) < most {
		first := ""
		for _, s := range all {
			if !slices.Contains(l, api.Context{Prefix: s}) && (first == "" || count(s) > count(first) || count(s) == count(first) && s < first) {
				first = s
			}
		}
		if first == "" {
			break
		}
		l = append(l, api.Context{Prefix: first})
	}
	return l
}

// P14.3: numbers of contexts, no headers, headers that are not valid, equal frequencies, one prefix twice in a header.
func TestBest(t *testing.T) {
	pair := func(source, target string) api.Header {
		return with(func(h *api.Header) { h.Source, h.Target = source, target })
	}
	for _, x := range []struct {
		h    []api.Header
		most int
		want []api.Context
	}{
		{nil, 3, nil},
		{[]api.Header{}, 8, nil},
		{[]api.Header{base()}, 1, co("\x0a\x00\x01")},
		{[]api.Header{base()}, 8, co("\x0a\x00\x01")},
		{[]api.Header{pair("bbbb", "aaaa")}, 8, co("aaa", "bbb")},
		{[]api.Header{pair("bbbb", "aaaa")}, 1, co("aaa")},
		{[]api.Header{pair("bbb1", "bbb2"), pair("aaa1", "ccc1")}, 2, co("bbb", "aaa")},
		{[]api.Header{pair("zzz1", "zzz2"), pair("yyy1", "zzz1"), pair("yyy2", "xxx1")}, 3, co("zzz", "yyy", "xxx")},
		{[]api.Header{pair("\xff\x00\x00\x01", "\x00\xff\x00\x01")}, 2, co("\x00\xff\x00", "\xff\x00\x00")},
		{[]api.Header{pair("aaa", "bbbb"), pair("aaaa", "bbbbb"), {}}, 8, nil},
		{[]api.Header{pair("aaaa", "bbbb"), with(func(h *api.Header) { h.Class, h.Source = 256, "cccc" })}, 8, co("aaa", "bbb")},
	} {
		if l := compress.Best(x.h, x.most); !slices.Equal(l, x.want) {
			t.Errorf("Best(%+v, %d) = %q", x.h, x.most, l)
		}
	}
	for _, h := range wrongHeaders() {
		if l := compress.Best([]api.Header{h, pair("aaaa", "bbbb"), h, h}, 8); !slices.Equal(l, co("aaa", "bbb")) {
			t.Errorf("Best with %+v: %q", h, l)
		}
	}
}

// P14.3: random headers, with more and with fewer prefixes than asked for.
func TestBestRandom(t *testing.T) {
	next := random(8)
	numbers := append([]int{-1, 0, 1, 2, 3, 4, 5, 6, 7, 8, 9, 16}, extremes...)
	for range 300 {
		var h []api.Header
		for range next(30) {
			one := someHeader(next)
			one.Source = string(byte('a'+next(3))) + one.Source[1:]
			h = append(h, one)
			if next(5) == 0 {
				h = append(h, wrongHeaders()[next(20)])
			}
		}
		for _, most := range numbers {
			l := compress.Best(h, most)
			if !slices.Equal(l, best(h, most)) || compress.Contexts(l) != api.OK {
				t.Errorf("Best of %d headers, %d: %q, want %q", len(h), most, l, best(h, most))
			}
		}
	}
}

// P14.1 to P14.4: arguments stay as they were, results are new memory, empty lists are like nil.
func TestArgumentsStay(t *testing.T) {
	l := co("\x0a\x00", "\x0a\x00\x01")
	kept := slices.Clone(l)
	h := []api.Header{base(), with(func(h *api.Header) { h.Source = "zzzz" }), {}}
	headers := slices.Clone(h)
	s, _ := compress.Compress(l, h[0])
	compress.Expand(l, s)
	compress.Bits(l, h[0])
	compress.Find(l, h[0].Source)
	compress.Contexts(l)
	a := compress.Best(h, 8)
	b := compress.Best(h, 8)
	if !slices.Equal(l, kept) || !slices.Equal(h, headers) {
		t.Error("an argument is changed")
	}
	a[0].Prefix = "changed"
	if b[0].Prefix != "\x0a\x00\x01" {
		t.Error("two results share memory")
	}
	x, _ := compress.Compress(nil, base())
	y, _ := compress.Compress([]api.Context{}, base())
	if x != y || compress.Contexts(nil) != api.OK || len(compress.Best(nil, 8)) > 0 {
		t.Error("nil and empty lists differ")
	}
}
