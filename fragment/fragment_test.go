package fragment_test

import (
	"fmt"
	"math"
	"slices"
	"strings"
	"testing"

	"hopmesh/api"
	"hopmesh/fragment"
)

// extremes are numbers that nothing allows.
var extremes = []int{math.MinInt, math.MinInt + 1, -1 << 42, -1, 1 << 42, math.MaxInt - 1, math.MaxInt}

// random returns a function that gives numbers from 0 to most, which follow from a seed.
func random(seed uint64) func(most int) int {
	return func(most int) int {
		seed = seed*6364136223846793005 + 1442695040888963407
		return int(seed>>16) % (most + 1)
	}
}

// text returns a datagram of some bytes, which differ from place to place.
func text(size int) string {
	b := make([]byte, size)
	for i := range b {
		b[i] = byte(i*7 + i/256)
	}
	return string(b)
}

// divide returns the fragments of a datagram by the definition.
func divide(tag int, data string, most int) []api.Fragment {
	var parts []string
	for rest := data; rest != ""; {
		n := min(most, len(rest))
		parts = append(parts, rest[:n])
		rest = rest[n:]
	}
	var l []api.Fragment
	for i, p := range parts {
		l = append(l, api.Fragment{Tag: tag, Index: i, Count: len(parts), Size: len(data), Data: p})
	}
	return l
}

// isValid says by the definition whether a fragment is one of some datagram with some limit: all limits are tried.
func isValid(f api.Fragment) bool {
	if f.Tag < 0 || f.Tag > 255 || f.Size < 1 || f.Size > 4095 {
		return false
	}
	for most := 1; most <= 120; most++ {
		var sizes []int
		for rest := f.Size; rest > 0 && len(sizes) <= 32; rest -= most {
			sizes = append(sizes, min(most, rest))
		}
		if len(sizes) == f.Count && f.Count <= 32 && f.Index >= 0 && f.Index < f.Count && sizes[f.Index] == len(f.Data) {
			return true
		}
	}
	return false
}

// encoded returns the bytes of a fragment by the definition.
func encoded(f api.Fragment) string {
	digits := fmt.Sprintf("%08b%05b%05b%012b00", f.Tag, f.Index, f.Count-1, f.Size)
	b := make([]byte, 4)
	for i := range digits {
		b[i/8] = b[i/8]<<1 | (digits[i] - '0')
	}
	return string(b) + f.Data
}

// sample is a datagram with a limit.
type sample struct{ size, most int }

// samples returns sizes and limits at the bounds: one part, whole last parts and short ones, 32 parts.
func samples() []sample {
	l := []sample{{1, 1}, {1, 120}, {2, 1}, {2, 2}, {5, 2}, {32, 1}, {31, 1}, {63, 2}, {64, 2}, {119, 120}, {120, 120}, {121, 120}, {121, 61}, {239, 120}, {240, 120}, {241, 120}, {3720, 120}, {3721, 120}, {3839, 120}, {3840, 120}, {3808, 119}, {100, 99}, {1000, 33}}
	next := random(1)
	for range 100 {
		most := 1 + next(119)
		l = append(l, sample{1 + next(32*most-1), most})
	}
	return l
}

// P15.1: the example of the chapter.
func TestExample(t *testing.T) {
	l, e := fragment.Split(7, "abcde", 2)
	want := []api.Fragment{{Tag: 7, Index: 0, Count: 3, Size: 5, Data: "ab"}, {Tag: 7, Index: 1, Count: 3, Size: 5, Data: "cd"}, {Tag: 7, Index: 2, Count: 3, Size: 5, Data: "e"}}
	if !slices.Equal(l, want) || e != api.OK {
		t.Fatal(l, e)
	}
	if s, e := fragment.Encode(l[2]); s != "\x07\x10\x80\x14e" || e != api.OK {
		t.Errorf("%x %v", s, e)
	}
	if f, e := fragment.Decode("\x07\x10\x80\x14e"); f != l[2] || e != api.OK {
		t.Error(f, e)
	}
	r, _ := fragment.NewReceiver(10)
	r.Receive(0, l[0])
	r.Receive(0, l[2])
	if n, e := r.Bitmap(7); n != 5 || e != api.OK {
		t.Error(n, e)
	}
	if l, e := fragment.Missing(3, 5); !slices.Equal(l, []int{1}) || e != api.OK {
		t.Error(l, e)
	}
	if s, done, e := r.Receive(0, l[1]); s != "abcde" || !done || e != api.OK {
		t.Error(s, done, e)
	}
}

// invalid returns fragments with one field that is out of range, however the others are.
func invalid() []api.Fragment {
	f := api.Fragment{Tag: 7, Index: 1, Count: 3, Size: 5, Data: "cd"}
	var l []api.Fragment
	for _, n := range extremes {
		for i := range 4 {
			g := f
			*[]*int{&g.Tag, &g.Index, &g.Count, &g.Size}[i] = n
			l = append(l, g)
		}
	}
	return append(l,
		api.Fragment{},
		api.Fragment{Count: 1}, // a datagram without data
		api.Fragment{Tag: 256, Count: 1, Size: 1, Data: "a"},
		api.Fragment{Count: 0, Size: 1, Data: "a"},
		api.Fragment{Index: 1, Count: 1, Size: 1, Data: "a"},
		api.Fragment{Index: 3, Count: 3, Size: 5, Data: "e"},
		api.Fragment{Count: 1, Size: 2, Data: "a"},
		api.Fragment{Count: 1, Size: 1, Data: "aa"},
		api.Fragment{Count: 1, Size: 121, Data: text(121)}, // a part longer than each limit
		api.Fragment{Count: 2, Size: 130, Data: text(121)},
		api.Fragment{Index: 1, Count: 2, Size: 130, Data: text(9)},
		api.Fragment{Count: 33, Size: 33, Data: "a"}, // too many parts
		api.Fragment{Index: 32, Count: 33, Size: 33, Data: "a"},
		api.Fragment{Count: 2, Size: 5, Data: "ab"},               // three parts of two
		api.Fragment{Count: 4, Size: 5, Data: "ab"},               //
		api.Fragment{Index: 1, Count: 3, Size: 5, Data: ""},       //
		api.Fragment{Index: 1, Count: 3, Size: 5, Data: "abcde"},  //
		api.Fragment{Index: 1, Count: 3, Size: 5, Data: "abcdef"}, //
		api.Fragment{Index: 2, Count: 3, Size: 5, Data: ""},       //
		api.Fragment{Index: 2, Count: 3, Size: 5, Data: "ab"},     // the rest of 3 is not two equal parts
		api.Fragment{Index: 2, Count: 3, Size: 5, Data: "abc"},    // longer than the parts before it
		api.Fragment{Index: 2, Count: 3, Size: 5, Data: "abcde"},  // nothing is left for the parts before it
		api.Fragment{Index: 2, Count: 3, Size: 5, Data: "abcdef"}, //
		api.Fragment{Count: 3, Size: 5, Data: text(1 << 17)},
		api.Fragment{Index: 2, Count: 3, Size: 5, Data: text(1 << 17)},
		api.Fragment{Count: 32, Size: 4095, Data: text(120)},
		api.Fragment{Count: 32, Size: 4095, Data: text(128)},
		api.Fragment{Count: 32, Size: 4096, Data: text(128)},
		api.Fragment{Count: 32, Size: 3841, Data: text(120)},
	)
}

// P15.1, P1: what follows from fragments that are not valid.
func TestInvalid(t *testing.T) {
	for _, f := range invalid() {
		if isValid(f) {
			t.Fatalf("%+v is valid", f)
		}
		if e := fragment.Check(f); e != api.ErrArg {
			t.Errorf("Check(%+v) = %v", f, e)
		}
		if s, e := fragment.Encode(f); s != "" || e != api.ErrArg {
			t.Errorf("Encode(%+v) = %x %v", f, s, e)
		}
	}
}

// P15.1: a fragment is valid exactly if it is one of those of some datagram with some limit, for all fields of small datagrams and some of greater ones.
func TestCheck(t *testing.T) {
	valid := 0
	try := func(f api.Fragment) {
		want := api.ErrArg
		if isValid(f) {
			want = api.OK
			valid++
		}
		if e := fragment.Check(f); e != want {
			t.Errorf("Check(%+v) = %v, want %v", f, e, want)
		}
	}
	for size := range 14 {
		for count := range 15 {
			for index := -1; index <= count; index++ {
				for n := range size + 2 {
					try(api.Fragment{Tag: size, Index: index, Count: count, Size: size, Data: text(n)})
				}
			}
		}
	}
	next := random(2)
	all := samples()
	for range 3000 {
		x := all[next(len(all)-1)]
		l := divide(next(255), text(x.size), x.most)
		f := l[next(len(l)-1)]
		try(f)
		switch next(3) {
		case 0:
			f.Index += next(2) - 1
		case 1:
			f.Count += next(2) - 1
		case 2:
			f.Size += next(2) - 1
		default:
			f.Data = text(max(0, len(f.Data)+next(2)-1))
		}
		try(f)
	}
	if valid < 3000 {
		t.Errorf("only %d fragments are valid", valid)
	}
}

// P15.1, P15.5: datagrams at the bounds, and all of up to 300 bytes; bytes and fragments belong together.
func TestSplit(t *testing.T) {
	l := samples()
	for size := 1; size <= 300; size++ {
		for most := max(1, (size+31)/32); most <= 120; most += 1 + most/5 {
			l = append(l, sample{size, most})
		}
	}
	for i, x := range l {
		data, tag := text(x.size), i%256
		parts, e := fragment.Split(tag, data, x.most)
		if !slices.Equal(parts, divide(tag, data, x.most)) || e != api.OK {
			t.Fatalf("Split of %+v: %+v %v", x, parts, e)
		}
		whole := ""
		for _, f := range parts {
			whole += f.Data
			if e := fragment.Check(f); e != api.OK {
				t.Fatalf("Check(%+v) = %v", f, e)
			}
			s, e := fragment.Encode(f)
			if s != encoded(f) || e != api.OK {
				t.Fatalf("Encode(%+v) = %x %v", f, s, e)
			}
			if g, e := fragment.Decode(s); g != f || e != api.OK {
				t.Fatalf("Decode(%x) = %+v %v", s, g, e)
			}
		}
		if whole != data {
			t.Fatalf("the parts of %+v are not the datagram", x)
		}
	}
}

// P15.1, P1: the errors of Split, and which one goes first.
func TestSplitErrors(t *testing.T) {
	for i, x := range []struct {
		tag, size, most int
		e               api.Errno
	}{
		{0, 1, 1, api.OK}, {255, 1, 120, api.OK}, {0, 32, 1, api.OK}, {0, 3840, 120, api.OK},
		{-1, 1, 1, api.ErrRange}, {256, 1, 1, api.ErrRange}, {0, 1, 0, api.ErrRange}, {0, 1, 121, api.ErrRange}, {0, 1, -5, api.ErrRange},
		{-1, 0, 1, api.ErrRange}, {0, 0, 0, api.ErrRange}, {256, 5000, 120, api.ErrRange}, {0, 5000, 121, api.ErrRange},
		{0, 0, 1, api.ErrEmpty}, {255, 0, 120, api.ErrEmpty},
		{0, 33, 1, api.ErrTooLarge}, {0, 65, 2, api.ErrTooLarge}, {0, 3841, 120, api.ErrTooLarge}, {0, 4095, 120, api.ErrTooLarge}, {0, 4096, 120, api.ErrTooLarge}, {0, 1 << 17, 120, api.ErrTooLarge},
	} {
		l, e := fragment.Split(x.tag, text(x.size), x.most)
		if e != x.e || (len(l) > 0) != (e == api.OK) {
			t.Error(i, len(l), e)
		}
	}
	for _, n := range extremes {
		if l, e := fragment.Split(n, "a", 1); len(l) > 0 || e != api.ErrRange {
			t.Error(n, l, e)
		}
		if l, e := fragment.Split(0, "a", n); len(l) > 0 || e != api.ErrRange {
			t.Error(n, l, e)
		}
	}
}

// P15.1: strings that are too short, filling bits that are not 0, and heads that do not belong to their data.
func TestDecodeErrors(t *testing.T) {
	fails := func(s string, want api.Errno) {
		t.Helper()
		if f, e := fragment.Decode(s); f != (api.Fragment{}) || e != want {
			t.Errorf("Decode(%x) = %+v %v", s, f, e)
		}
	}
	s := "\x07\x10\x80\x14e"
	for n := range 4 {
		fails(s[:n], api.ErrShort)
		fails(strings.Repeat("\xff", n), api.ErrShort)
	}
	fails(s[:4], api.ErrCorrupt)
	fails(s+"f", api.ErrCorrupt)
	for _, filling := range []string{"\x15", "\x16", "\x17"} {
		fails("\x07\x10\x80"+filling+"e", api.ErrCorrupt)
	}
	fails("\x00\x00\x00\x00", api.ErrCorrupt)
	fails("\x00\x00\x00\x00a", api.ErrCorrupt)
	fails(strings.Repeat("\xff", 4), api.ErrCorrupt)
	fails(s+text(api.MaxData), api.ErrCorrupt)
	fails(s+text(1<<20), api.ErrCorrupt)
	for _, f := range invalid() {
		if f.Tag >= 0 && f.Tag < 256 && f.Index >= 0 && f.Index < 32 && f.Count > 0 && f.Count <= 32 && f.Size >= 0 && f.Size < 4096 {
			fails(encoded(f), api.ErrCorrupt)
		}
	}
}

// P15.1, P15.5: random strings are the bytes of a fragment exactly if Encode returns them.
func TestDecodeRandom(t *testing.T) {
	next := random(3)
	all := samples()
	accepted := 0
	for range 100000 {
		x := all[next(len(all)-1)]
		l := divide(next(255), text(x.size), x.most)
		b := []byte(encoded(l[next(len(l)-1)]))
		b[next(3)] ^= 1 << next(7)
		f, e := fragment.Decode(string(b))
		if e != api.OK {
			if f != (api.Fragment{}) || e != api.ErrCorrupt {
				t.Fatalf("Decode(%x) = %+v %v", b, f, e)
			}
			continue
		}
		accepted++
		if s, e := fragment.Encode(f); s != string(b) || e != api.OK || !isValid(f) {
			t.Fatalf("Decode(%x) = %+v, but Encode returns %x %v", b, f, s, e)
		}
	}
	if accepted < 1000 {
		t.Errorf("only %d strings are accepted", accepted)
	}
}

// P15.2: all bitmaps of up to ten parts, and some of up to 32.
func TestMissing(t *testing.T) {
	same := func(count, bitmap int) {
		t.Helper()
		digits := fmt.Sprintf("%0*b", count, bitmap)
		var want []int
		for i := range count {
			if digits[count-1-i] == '0' {
				want = append(want, i)
			}
		}
		if l, e := fragment.Missing(count, bitmap); !slices.Equal(l, want) || e != api.OK {
			t.Errorf("Missing(%d, %b) = %v %v", count, bitmap, l, e)
		}
	}
	fails := func(count, bitmap int) {
		t.Helper()
		if l, e := fragment.Missing(count, bitmap); len(l) > 0 || e != api.ErrRange {
			t.Errorf("Missing(%d, %b) = %v %v", count, bitmap, l, e)
		}
	}
	next := random(4)
	for count := 1; count <= 32; count++ {
		all := 1<<count - 1
		for range 50 {
			same(count, next(all))
		}
		same(count, 0)
		same(count, all)
		fails(count, all+1)
		fails(count, all+1+next(all))
		for _, n := range extremes {
			fails(count, n)
			fails(n, count)
		}
	}
	for count := range 10 {
		for bitmap := range 1 << (count + 1) {
			same(count+1, bitmap)
		}
	}
	for _, count := range []int{0, 33, 62, 63, 64, 65} {
		fails(count, 0)
		fails(count, 1)
	}
}

// receiver returns a receiver that has received nothing.
func receiver(t *testing.T, hold int) *fragment.Receiver {
	t.Helper()
	r, e := fragment.NewReceiver(hold)
	if r == nil || e != api.OK {
		t.Fatal(r, e)
	}
	return r
}

// one returns a datagram of one byte.
func one(tag int) api.Fragment { return api.Fragment{Tag: tag, Count: 1, Size: 1, Data: "x"} }

// gets has a fragment received, with a result.
func gets(t *testing.T, r *fragment.Receiver, slot int, f api.Fragment, data string, done bool, want api.Errno) {
	t.Helper()
	if s, ok, e := r.Receive(slot, f); s != data || ok != done || e != want {
		t.Fatalf("Receive(%d, %+v) = %q %v %v, want %q %v %v", slot, f, s, ok, e, data, done, want)
	}
}

// holds says which tags and which bitmaps a receiver has.
func holds(t *testing.T, r *fragment.Receiver, want map[int]int) {
	t.Helper()
	var tags []int
	for tag := -1; tag <= 256; tag++ {
		n, e := r.Bitmap(tag)
		if bitmap, ok := want[tag]; ok {
			tags = append(tags, tag)
			if n != bitmap || e != api.OK {
				t.Fatalf("Bitmap(%d) = %b %v, want %b", tag, n, e, bitmap)
			}
		} else if n != 0 || e != api.ErrNotFound {
			t.Fatalf("Bitmap(%d) = %b %v", tag, n, e)
		}
	}
	if l := r.Tags(); !slices.Equal(l, tags) {
		t.Fatalf("Tags() = %v, want %v", l, tags)
	}
}

// P15.3, P15.4, P1: which holds there are, and a receiver that has received nothing.
func TestNewReceiver(t *testing.T) {
	for _, hold := range []int{0, 1, 10, api.MaxRun} {
		r := receiver(t, hold)
		holds(t, r, nil)
		for _, n := range extremes {
			if b, e := r.Bitmap(n); b != 0 || e != api.ErrNotFound {
				t.Error(n, b, e)
			}
		}
	}
	for _, hold := range append([]int{api.MaxRun + 1}, extremes...) {
		if r, e := fragment.NewReceiver(hold); r != nil || e != api.ErrRange {
			t.Error(hold, r, e)
		}
	}
	var zero fragment.Receiver
	gets(t, &zero, 0, one(3), "x", true, api.OK)
	holds(t, &zero, map[int]int{3: 1})
}

// P15.3: slots that are less than the time or too great, fragments that are not valid; nothing changes, and ErrArg goes first.
func TestReceiveErrors(t *testing.T) {
	l := divide(7, "abcde", 2)
	r := receiver(t, 3)
	gets(t, r, -1, l[0], "", false, api.ErrOrder)
	gets(t, r, 10, l[0], "", false, api.OK)
	for _, slot := range []int{9, 0, -1, math.MinInt, api.MaxSlot + 1, math.MaxInt} {
		gets(t, r, slot, l[1], "", false, api.ErrOrder)
		gets(t, r, slot, one(8), "", false, api.ErrOrder)
		gets(t, r, slot, api.Fragment{}, "", false, api.ErrArg)
		holds(t, r, map[int]int{7: 1})
	}
	for _, f := range invalid() {
		for _, slot := range []int{9, 10, 1000, api.MaxSlot, api.MaxSlot + 1} {
			gets(t, r, slot, f, "", false, api.ErrArg)
		}
	}
	holds(t, r, map[int]int{7: 1})
	// The time is 10 still.
	gets(t, r, 10, l[1], "", false, api.OK)
	gets(t, r, 10, l[2], "abcde", true, api.OK)
	gets(t, r, api.MaxSlot, one(9), "x", true, api.OK)
	gets(t, r, api.MaxSlot, one(9), "", false, api.OK)
	gets(t, r, api.MaxSlot-1, one(9), "", false, api.ErrOrder)
	holds(t, r, map[int]int{9: 1})
}

// P15.3, P15.4: a datagram is forgotten exactly if its last fragment was received before the time - hold; each further fragment lets it stay.
func TestForget(t *testing.T) {
	l := divide(7, "abcde", 2)
	for _, hold := range []int{0, 1, 5, api.MaxRun} {
		r := receiver(t, hold)
		gets(t, r, 0, l[0], "", false, api.OK)
		gets(t, r, hold, l[1], "", false, api.OK)
		gets(t, r, 2*hold, l[0], "", false, api.OK)
		gets(t, r, 3*hold, one(8), "x", true, api.OK)
		holds(t, r, map[int]int{7: 3, 8: 1})
		gets(t, r, 3*hold+1, one(9), "x", true, api.OK)
		if hold == 0 {
			holds(t, r, map[int]int{9: 1})
		} else {
			holds(t, r, map[int]int{8: 1, 9: 1})
		}
		gets(t, r, 3*hold+1, l[2], "", false, api.OK)
		gets(t, r, 4*hold+1, l[1], "", false, api.OK)
		gets(t, r, 5*hold+1, l[0], "abcde", true, api.OK)
		gets(t, r, 6*hold+1, l[2], "", false, api.OK)
		gets(t, r, 7*hold+1, l[2], "", false, api.OK)
		if hold > 0 {
			holds(t, r, map[int]int{7: 7})
		}
		// One slot later it is forgotten, by a fragment of its own, and begins anew.
		gets(t, r, 8*hold+2, l[2], "", false, api.OK)
		holds(t, r, map[int]int{7: 4})
		gets(t, r, 8*hold+2, l[1], "", false, api.OK)
		gets(t, r, 8*hold+2, l[0], "abcde", true, api.OK)
	}
}

// P15.3: the ninth datagram is refused, be the others complete or not; but the time passes, and what is too old is forgotten.
func TestFull(t *testing.T) {
	r := receiver(t, 10)
	want := map[int]int{}
	for tag := range 8 {
		if tag%2 == 0 {
			gets(t, r, tag, one(tag), "x", true, api.OK)
		} else {
			gets(t, r, tag, divide(tag, "abc", 1)[1], "", false, api.OK)
		}
		want[tag] = 1 + tag%2
	}
	holds(t, r, want)
	gets(t, r, 9, one(8), "", false, api.ErrFull)
	holds(t, r, want)
	gets(t, r, 8, one(8), "", false, api.ErrOrder)
	gets(t, r, 10, divide(1, "abc", 1)[0], "", false, api.OK)
	want[1] = 3
	gets(t, r, 10, one(8), "", false, api.ErrFull)
	holds(t, r, want)
	gets(t, r, 11, one(8), "x", true, api.OK)
	delete(want, 0)
	want[8] = 1
	holds(t, r, want)
	gets(t, r, 11, one(0), "", false, api.ErrFull)
	gets(t, r, 18, one(255), "x", true, api.OK)
	holds(t, r, map[int]int{1: 3, 8: 1, 255: 1})
}

// P15.3: fragments of another datagram with the same tag are refused. They do not let it stay, but the time passes.
func TestMismatch(t *testing.T) {
	base := divide(7, "abcde", 2)
	others := []api.Fragment{
		divide(7, "abcd", 2)[0],   // another Count and Size
		divide(7, "abcd", 2)[1],   //
		divide(7, "abcdef", 2)[1], // another Size
		divide(7, "abcdef", 2)[2], //
		divide(7, "abcde", 3)[1],  // another Count
		divide(7, "ab", 2)[0],     // one part
		divide(7, "aXcde", 2)[0],  // other Data
		divide(7, "Abcde", 2)[0],  //
	}
	for _, f := range others {
		r := receiver(t, 5)
		gets(t, r, 0, base[0], "", false, api.OK)
		gets(t, r, 1, one(8), "x", true, api.OK)
		gets(t, r, 5, f, "", false, api.ErrMismatch)
		holds(t, r, map[int]int{7: 1, 8: 1})
		gets(t, r, 4, base[1], "", false, api.ErrOrder)
		gets(t, r, 6, one(9), "x", true, api.OK)
		holds(t, r, map[int]int{8: 1, 9: 1})
		// Now it begins a datagram of its own.
		if f.Count == 1 {
			gets(t, r, 6, f, "ab", true, api.OK)
		} else {
			gets(t, r, 6, f, "", false, api.OK)
		}
		holds(t, r, map[int]int{7: 1 << f.Index, 8: 1, 9: 1})
	}
	// By a refused fragment another datagram is forgotten.
	r := receiver(t, 5)
	gets(t, r, 0, one(8), "x", true, api.OK)
	gets(t, r, 1, base[0], "", false, api.OK)
	gets(t, r, 6, others[0], "", false, api.ErrMismatch)
	holds(t, r, map[int]int{7: 1})
}

// P15.3: the part length alone tells datagrams apart, by a part in the middle as by the last one; and other data of the last part.
func TestPartLength(t *testing.T) {
	// 9 bytes have 2 parts with the limits 5, 6, 7 and 8.
	data := text(9)
	for most := 5; most <= 8; most++ {
		for other := 5; other <= 8; other++ {
			for i := range 4 {
				l, m := divide(7, data, most), divide(7, data, other)
				r := receiver(t, 0)
				gets(t, r, 0, l[i/2], "", false, api.OK)
				if most == other {
					continue
				}
				gets(t, r, 0, m[i%2], "", false, api.ErrMismatch)
				gets(t, r, 0, l[1-i/2], data, true, api.OK)
				gets(t, r, 0, m[i%2], "", false, api.ErrMismatch)
			}
		}
	}
	// A complete datagram refuses other data, too.
	r := receiver(t, 0)
	l := divide(7, "abcde", 2)
	gets(t, r, 0, l[2], "", false, api.OK)
	changed := l[2]
	changed.Data = "f"
	gets(t, r, 0, changed, "", false, api.ErrMismatch)
	gets(t, r, 0, l[1], "", false, api.OK)
	gets(t, r, 0, l[0], "abcde", true, api.OK)
	gets(t, r, 0, changed, "", false, api.ErrMismatch)
	gets(t, r, 0, l[2], "", false, api.OK)
	holds(t, r, map[int]int{7: 7})
}

// model is a receiver by the definition: it keeps every fragment that was not refused.
type model struct {
	hold, time int
	last       map[int]int
	kept       map[int][]api.Fragment
	delivered  map[int]bool
}

// length returns the part length of a fragment.
func length(f api.Fragment) int {
	switch {
	case f.Count == 1:
		return f.Size
	case f.Index < f.Count-1:
		return len(f.Data)
	}
	return (f.Size - len(f.Data)) / (f.Count - 1)
}

// receive returns what a receiver has to return.
func (m *model) receive(slot int, f api.Fragment) (string, bool, api.Errno) {
	if !isValid(f) {
		return "", false, api.ErrArg
	}
	if slot < m.time || slot > 109951162 {
		return "", false, api.ErrOrder
	}
	m.time = slot
	for tag := range 256 {
		if last, ok := m.last[tag]; ok && last < slot-m.hold {
			delete(m.last, tag)
			delete(m.kept, tag)
			delete(m.delivered, tag)
		}
	}
	if len(m.kept[f.Tag]) == 0 && len(m.kept) == 8 {
		return "", false, api.ErrFull
	}
	for _, g := range m.kept[f.Tag] {
		if g.Count != f.Count || g.Size != f.Size || length(g) != length(f) || g.Index == f.Index && g.Data != f.Data {
			return "", false, api.ErrMismatch
		}
	}
	m.last[f.Tag] = slot
	m.kept[f.Tag] = append(m.kept[f.Tag], f)
	if m.delivered[f.Tag] {
		return "", false, api.OK
	}
	whole := ""
	for i := range f.Count {
		k := slices.IndexFunc(m.kept[f.Tag], func(g api.Fragment) bool { return g.Index == i })
		if k < 0 {
			return "", false, api.OK
		}
		whole += m.kept[f.Tag][k].Data
	}
	m.delivered[f.Tag] = true
	return whole, true, api.OK
}

// bitmaps returns the bitmap of each tag.
func (m *model) bitmaps() map[int]int {
	all := map[int]int{}
	for tag, l := range m.kept {
		for _, f := range l {
			all[tag] |= 1 << f.Index
		}
	}
	return all
}

// P15.3, P15.4, P15.5: random fragments of few datagrams, in all orders, lost, repeated and mixed.
func TestReceiveRandom(t *testing.T) {
	next := random(5)
	delivered, refused := 0, map[api.Errno]int{}
	for range 400 {
		hold := next(30)
		r := receiver(t, hold)
		m := &model{hold: hold, last: map[int]int{}, kept: map[int][]api.Fragment{}, delivered: map[int]bool{}}
		tags := 4 + next(8)
		slot := 0
		for range 150 {
			slot += next(5) / 4 * next(8)
			l := divide(next(tags), text(9+next(7)/7), 3+next(9)/9)
			f := l[next(len(l)-1)]
			if next(19) == 0 {
				f.Data = f.Data[1:] + "?"
			}
			if next(99) == 0 {
				f.Index = -1
			}
			at := slot - next(49)/49
			s, done, e := r.Receive(at, f)
			want, is, err := m.receive(at, f)
			if s != want || done != is || e != err {
				t.Fatalf("Receive(%d, %+v) = %q %v %v, want %q %v %v", at, f, s, done, e, want, is, err)
			}
			if done {
				delivered++
			}
			refused[e]++
			holds(t, r, m.bitmaps())
		}
	}
	if delivered < 1000 || refused[api.ErrFull] < 100 || refused[api.ErrMismatch] < 100 || refused[api.ErrOrder] < 100 || refused[api.ErrArg] < 100 {
		t.Error(delivered, refused)
	}
}

// P15.5: what is missing is just what completes a datagram, whatever came before.
func TestMissingCompletes(t *testing.T) {
	next := random(6)
	for i, x := range samples() {
		r := receiver(t, api.MaxRun)
		tag, data := i%256, text(x.size)
		l, _ := fragment.Split(tag, data, x.most)
		came := map[int]bool{}
		for range next(2 * len(l)) {
			k := next(len(l) - 1)
			came[k] = true
			if s, done, e := r.Receive(0, l[k]); done != (len(came) == len(l)) || e != api.OK || done && s != data {
				t.Fatal(i, done, e)
			} else if done {
				break
			}
		}
		bitmap, _ := r.Bitmap(tag)
		missing, e := fragment.Missing(len(l), bitmap)
		if e != api.OK || len(missing) != len(l)-len(came) {
			t.Fatal(i, missing, e)
		}
		for n, k := range missing {
			if n < len(missing)-1 {
				gets(t, r, 0, l[k], "", false, api.OK)
			} else {
				gets(t, r, 0, l[k], data, true, api.OK)
			}
		}
		for _, f := range l {
			gets(t, r, 0, f, "", false, api.OK)
		}
	}
}

// P15.5: eight datagrams of different tags arrive as each of them would alone.
func TestTagsApart(t *testing.T) {
	next := random(7)
	for range 200 {
		var mixed []api.Fragment
		for tag := range 8 {
			data := text(1 + next(60))
			l := divide(tag*36, data, 2+next(20))
			mixed = append(mixed, l...)
			mixed = append(mixed, l[:next(len(l))]...)
		}
		for i := range mixed {
			k := next(len(mixed) - 1)
			mixed[i], mixed[k] = mixed[k], mixed[i]
		}
		together := receiver(t, 5)
		alone := map[int]*fragment.Receiver{}
		for _, f := range mixed {
			if alone[f.Tag] == nil {
				alone[f.Tag] = receiver(t, 5)
			}
			s, done, e := alone[f.Tag].Receive(3, f)
			gets(t, together, 3, f, s, done, e)
		}
		if len(together.Tags()) != 8 {
			t.Fatal(together.Tags())
		}
	}
}

// P15.1 to P15.4: results are new memory, and receivers do not share anything.
func TestMemory(t *testing.T) {
	l, _ := fragment.Split(7, "abcde", 2)
	m, _ := fragment.Split(7, "abcde", 2)
	l[0].Data = "changed"
	if m[0].Data != "ab" {
		t.Error("two results share memory")
	}
	r, other := receiver(t, 5), receiver(t, 5)
	gets(t, r, 0, m[0], "", false, api.OK)
	gets(t, r, 0, one(8), "x", true, api.OK)
	tags := r.Tags()
	tags[0] = 200
	holds(t, r, map[int]int{7: 1, 8: 1})
	holds(t, other, nil)
}
