package frame_test

import (
	"fmt"
	"math"
	"strings"
	"testing"

	"hopmesh/api"
	"hopmesh/bitio"
	"hopmesh/crc"
	"hopmesh/frame"
)

const slots = api.MaxTime / api.SlotTime

// extremes are numbers that nothing allows.
var extremes = []int{math.MinInt, math.MinInt + 1, -1 << 42, 1 << 42, math.MaxInt - 1, math.MaxInt}

// random returns a function that gives numbers from 0 to most, which follow from a seed.
func random(seed uint64) func(most int) int {
	return func(most int) int {
		seed = seed*6364136223846793005 + 1442695040888963407
		return int(seed>>16) % (most + 1)
	}
}

// text returns a string of n bytes without a visible rule.
func text(n int) string {
	next := random(uint64(n))
	s := make([]byte, n)
	for i := range s {
		s[i] = byte(next(255))
	}
	return string(s)
}

// Frames of each Kind.
func data() api.Frame {
	return api.Frame{Kind: 1, Source: 5, Target: 9, List: 7, Sequence: 8, Flow: 3, Number: 300, Data: "abc"}
}

func ack() api.Frame {
	return api.Frame{Kind: 2, Source: 2, Target: 1, List: 3, Sequence: 4, Error: -1}
}

func beacon() api.Frame {
	return api.Frame{Kind: 3, Source: 5, Target: -1, List: 7, Sequence: 8, Slot: 1000, Rank: 256, Epoch: 2, Data: "offer"}
}

func message() api.Frame {
	return api.Frame{Kind: 4, Source: 5, Target: 9, List: 7, Sequence: 8, Data: "packet"}
}

func loud() api.Frame {
	f := message()
	f.Target = -1
	return f
}

func samples() []api.Frame { return []api.Frame{data(), ack(), beacon(), message(), loud()} }

// with returns a frame that is changed.
func with(f api.Frame, change func(f *api.Frame)) api.Frame {
	change(&f)
	return f
}

// field is a field of a frame, with its bounds and the kinds for which it is named.
type field struct {
	name        string
	at          func(f *api.Frame) *int
	least, most int
	kinds       []int
}

func fields() []field {
	return []field{
		{"Source", func(f *api.Frame) *int { return &f.Source }, 0, 31, []int{1, 2, 3, 4}},
		{"List", func(f *api.Frame) *int { return &f.List }, 0, 255, []int{1, 2, 3, 4}},
		{"Sequence", func(f *api.Frame) *int { return &f.Sequence }, 0, 255, []int{1, 2, 3, 4}},
		{"Flow", func(f *api.Frame) *int { return &f.Flow }, 0, 255, []int{1}},
		{"Number", func(f *api.Frame) *int { return &f.Number }, 0, 65535, []int{1}},
		{"Error", func(f *api.Frame) *int { return &f.Error }, -32768, 32767, []int{2}},
		{"Slot", func(f *api.Frame) *int { return &f.Slot }, 0, slots, []int{3}},
		{"Rank", func(f *api.Frame) *int { return &f.Rank }, 0, 65535, []int{3}},
		{"Epoch", func(f *api.Frame) *int { return &f.Epoch }, 0, 65535, []int{3}},
	}
}

func has(l []int, n int) bool {
	for _, k := range l {
		if k == n {
			return true
		}
	}
	return false
}

// bits returns the bits of a frame as digits, by the definition.
func bits(f api.Frame) string {
	s := fmt.Sprintf("%03b%05b", f.Kind, f.Source)
	if f.Target < 0 {
		s += "0"
	} else {
		s += fmt.Sprintf("1%05b", f.Target)
	}
	s += fmt.Sprintf("%08b%08b", f.List, f.Sequence)
	switch f.Kind {
	case 1:
		s += fmt.Sprintf("%08b%016b", f.Flow, f.Number)
	case 2:
		return s + fmt.Sprintf("%016b", uint16(f.Error))
	case 3:
		s += fmt.Sprintf("%027b%016b%016b", f.Slot, f.Rank, f.Epoch)
	}
	s += fmt.Sprintf("%07b", len(f.Data))
	for i := range len(f.Data) {
		s += fmt.Sprintf("%08b", f.Data[i])
	}
	return s
}

// pack returns the bytes of a bit string that is written with digits; blanks are left out.
func pack(digits string) string {
	digits = strings.ReplaceAll(digits, " ", "")
	b := make([]byte, (len(digits)+7)/8)
	for i := range len(digits) {
		b[i/8] |= (digits[i] - '0') << (7 - i%8)
	}
	return string(b)
}

// flip returns a string in which bits are wrong.
func flip(s string, places ...int) string {
	b := []byte(s)
	for _, i := range places {
		b[i/8] ^= 1 << (7 - i%8)
	}
	return string(b)
}

// some returns a valid frame with data of a length up to a greatest one.
func some(next func(int) int, length int) api.Frame {
	f := api.Frame{Kind: 1 + next(3), Source: next(31), List: next(255), Sequence: next(255)}
	f.Target = (f.Source + 1 + next(30)) % 32
	if f.Kind != 2 {
		f.Data = text(next(length))
	}
	switch f.Kind {
	case 1:
		f.Flow, f.Number = next(255), next(65535)
	case 2:
		f.Error = next(65535) - 32768
	case 3:
		f.Target, f.Slot, f.Rank, f.Epoch = -1, next(slots), next(65535), next(65535)
	case 4:
		if next(1) == 0 {
			f.Target = -1
		}
	}
	return f
}

// wrong returns frames that are not valid.
func wrong() []api.Frame {
	l := []api.Frame{{}}
	for _, f := range append(samples(), api.Frame{Kind: 4, Source: 5, Target: 9}, api.Frame{Kind: 4, Source: 5, Target: -1}) {
		for _, n := range append([]int{-1, 0, 5, 6, 7, 8, 9, -4}, extremes...) {
			l = append(l, with(f, func(f *api.Frame) { f.Kind = n }))
		}
		for _, x := range fields() {
			values := append([]int{x.least - 1, x.most + 1}, extremes...)
			if !has(x.kinds, f.Kind) {
				values = append([]int{-1, 1, 2, 255}, extremes...)
			}
			for _, n := range values {
				l = append(l, with(f, func(f *api.Frame) { *x.at(f) = n }))
			}
		}
		targets := append([]int{-2, 32, f.Source}, extremes...)
		switch f.Kind {
		case 1, 2:
			targets = append(targets, -1)
		case 3:
			targets = append(targets, 0, 1, 30, 31)
		}
		for _, n := range targets {
			l = append(l, with(f, func(f *api.Frame) { f.Target = n }))
		}
	}
	for _, s := range []string{"\x00", "a", text(127), text(128), text(5000)} {
		l = append(l, with(ack(), func(f *api.Frame) { f.Data = s }))
		// Also of what is too large the wrong field is named.
		l = append(l, with(data(), func(f *api.Frame) { f.List, f.Data = -1, s }))
		l = append(l, with(loud(), func(f *api.Frame) { f.Rank, f.Data = 1, s }))
	}
	return l
}

// refused reports whether everything says that a frame is not valid.
func refused(t *testing.T, f api.Frame) {
	t.Helper()
	if e := frame.Check(f); e != api.ErrArg {
		t.Errorf("Check(%+v) = %v", f, e)
	}
	if s, e := frame.Encode(f); s != "" || e != api.ErrArg {
		t.Errorf("Encode(%+v) = %x %v", f, s, e)
	}
	if n, e := frame.Time(f); n != 0 || e != api.ErrArg {
		t.Errorf("Time(%+v) = %d %v", f, n, e)
	}
	if n, e := frame.Room(f); n != 0 || e != api.ErrArg {
		t.Errorf("Room(%+v) = %d %v", f, n, e)
	}
	for _, n := range []int{0, -1, 256, 1 << 20} {
		if a, e := frame.Ack(f, n, n); a != (api.Frame{}) || e != api.ErrArg {
			t.Errorf("Ack(%+v, %d, %d) = %+v %v", f, n, n, a, e)
		}
	}
	for n := -1; n <= api.MaxNodes; n++ {
		if frame.For(f, n) {
			t.Errorf("For(%+v, %d)", f, n)
		}
	}
	answer := api.Frame{Kind: 2, Source: f.Target, Target: f.Source, Sequence: f.Sequence}
	if frame.Answers(f, answer) || frame.Answers(f, f) || frame.Answers(answer, f) {
		t.Errorf("Answers for %+v", f)
	}
}

// sent reports whether a frame is valid, and has the bytes of the definition, which are decoded again.
func sent(t *testing.T, f api.Frame) string {
	t.Helper()
	if e := frame.Check(f); e != api.OK {
		t.Fatalf("Check(%+v) = %v", f, e)
	}
	s, e := frame.Encode(f)
	if want := crc.Protect(pack(bits(f))); s != want || e != api.OK {
		t.Fatalf("Encode(%+v) = %x %v, want %x", f, s, e, want)
	}
	if g, e := frame.Decode(s); g != f || e != api.OK {
		t.Fatalf("Decode(%x) = %+v %v, want %+v", s, g, e, f)
	}
	return s
}

// decoded reports whether a string is no frame, with an error.
func decoded(t *testing.T, s string, want api.Errno) {
	t.Helper()
	if f, e := frame.Decode(s); f != (api.Frame{}) || e != want {
		t.Errorf("Decode(%x) = %+v %v, want %v", s, f, e, want)
	}
}

// P13.1, P13.2: the examples of the chapter.
func TestExamples(t *testing.T) {
	s, e := frame.Encode(ack())
	if want := crc.Protect(pack("010 00010 1 00001 00000011 00000100 1111111111111111 00")); s != want || len(s) != 8 || e != api.OK {
		t.Errorf("%x %v", s, e)
	}
	if n, e := frame.Time(ack()); n != 832 || e != api.OK {
		t.Error(n, e)
	}
	f := api.Frame{Kind: api.FrameData, Target: 1}
	if s, e := frame.Encode(f); len(s) != 10 || e != api.OK {
		t.Errorf("%x %v", s, e)
	}
	if n, e := frame.Room(f); n != 117 || e != api.OK {
		t.Error(n, e)
	}
}

// P13.1: the kinds have the numbers of the definition.
func TestKinds(t *testing.T) {
	if api.FrameData != 1 || api.FrameAck != 2 || api.FrameBeacon != 3 || api.FrameMessage != 4 || api.MaxFrame != 127 {
		t.Error("the numbers of the package api differ")
	}
	for _, f := range samples() {
		sent(t, f)
	}
}

// P13.1: each field that is named for a Kind, at its bounds and within.
func TestFields(t *testing.T) {
	for _, f := range samples() {
		for _, x := range fields() {
			if !has(x.kinds, f.Kind) {
				continue
			}
			for _, n := range []int{x.least, x.least + 1, 0, 1, x.most / 2, x.most/2 + 1, x.most - 1, x.most} {
				g := with(f, func(f *api.Frame) { *x.at(f) = n })
				if g.Target == g.Source {
					continue
				}
				if s := sent(t, g); frame.Check(g) != api.OK {
					t.Errorf("%s of %d: %x", x.name, n, s)
				}
			}
		}
	}
}

// P13.1: which Target a frame of a Kind can have.
func TestTargets(t *testing.T) {
	for _, f := range samples() {
		for source := range 32 {
			for target := -2; target <= 33; target++ {
				g := with(f, func(f *api.Frame) { f.Source, f.Target = source, target })
				one := target >= 0 && target <= 31 && target != source
				all := target == -1
				valid := one
				switch f.Kind {
				case 3:
					valid = all
				case 4:
					valid = one || all
				}
				if valid {
					sent(t, g)
				} else if e := frame.Check(g); e != api.ErrArg {
					t.Errorf("Check(%+v) = %v", g, e)
				}
			}
		}
	}
}

// P13.1, P13.2, P13.3, P1: frames that are not valid.
func TestWrong(t *testing.T) {
	for _, f := range wrong() {
		refused(t, f)
	}
}

// P13.1, P13.2, P13.4: data of all lengths. What does not fit is valid, but cannot be sent.
func TestDataLengths(t *testing.T) {
	for _, f := range samples() {
		if f.Kind == api.FrameAck {
			continue
		}
		for n := range 131 {
			f.Data = text(n)
			room := (1000 - len(bits(f))) / 8
			if len(bits(f)) > 1000 {
				tooLarge(t, f)
				continue
			}
			s := sent(t, f)
			if len(s) != (len(bits(f))+7)/8+2 || len(s) > api.MaxFrame {
				t.Errorf("%d bytes of data: %d bytes", n, len(s))
			}
			if k, e := frame.Room(f); k != room || e != api.OK {
				t.Errorf("Room(%+v) = %d %v, want %d", f, k, e, room)
			}
			if k, e := frame.Time(f); k != 32*(len(s)+6) || e != api.OK {
				t.Errorf("Time(%+v) = %d %v", f, k, e)
			}
		}
	}
}

// tooLarge reports whether a frame is valid, but has too many bytes.
func tooLarge(t *testing.T, f api.Frame) {
	t.Helper()
	if e := frame.Check(f); e != api.OK {
		t.Errorf("Check with %d bytes: %v", len(f.Data), e)
	}
	if s, e := frame.Encode(f); s != "" || e != api.ErrTooLarge {
		t.Errorf("Encode with %d bytes: %x %v", len(f.Data), s, e)
	}
	if n, e := frame.Time(f); n != 0 || e != api.ErrTooLarge {
		t.Errorf("Time with %d bytes: %d %v", len(f.Data), n, e)
	}
	if n, e := frame.Room(f); n != 0 || e != api.ErrTooLarge {
		t.Errorf("Room with %d bytes: %d %v", len(f.Data), n, e)
	}
}

// P13.1, P13.2, P13.3: data that no frame can have on the air; the frame is valid nevertheless.
func TestLongData(t *testing.T) {
	for _, f := range samples() {
		if f.Kind == api.FrameAck {
			continue
		}
		for _, n := range []int{127, 128, 4095, 4096, api.MaxData, api.MaxData + 1, 1 << 20} {
			f.Data = text(n)
			tooLarge(t, f)
			if f.Target >= 0 {
				a, e := frame.Ack(f, 1, 2)
				if e != api.OK || !frame.Answers(f, a) || !frame.For(f, f.Target) {
					t.Errorf("the acknowledgement with %d bytes: %v", n, e)
				}
			} else if !frame.For(f, 31) || frame.For(f, f.Source) {
				t.Errorf("For with %d bytes", n)
			}
		}
	}
}

// P13.2: the rooms of frames without data, and up to the last byte.
func TestRooms(t *testing.T) {
	for _, x := range []struct {
		f    api.Frame
		room int
	}{{data(), 117}, {beacon(), 113}, {message(), 120}, {loud(), 121}} {
		f := x.f
		for n := range x.room + 1 {
			f.Data = text(n)
			if k, e := frame.Room(f); k != x.room-n || e != api.OK {
				t.Errorf("Room(%+v) = %d %v, want %d", f, k, e, x.room-n)
			}
		}
		if s := sent(t, f); len(s) != api.MaxFrame {
			t.Errorf("%d bytes", len(s))
		}
		f.Data += "x"
		tooLarge(t, f)
	}
	if n, e := frame.Room(ack()); n != 0 || e != api.ErrArg {
		t.Error(n, e)
	}
}

// P13.1, P13.4: the air times of the least and the greatest frames fit into a slot, with their acknowledgements.
func TestTimes(t *testing.T) {
	for _, x := range []struct {
		f    api.Frame
		time int
	}{
		{api.Frame{Kind: 4, Target: -1}, 32 * 12},
		{api.Frame{Kind: 4, Target: -1, Data: text(121)}, 32 * 133},
		{api.Frame{Kind: 1, Target: 1}, 32 * 16},
		{api.Frame{Kind: 1, Target: 1, Data: text(117)}, 32 * 133},
		{api.Frame{Kind: 3, Target: -1}, 32 * 20},
		{api.Frame{Kind: 2, Target: 1}, 832},
		{api.Frame{Kind: 2, Source: 31, Target: 30, List: 255, Sequence: 255, Error: -32768}, 832},
		{api.Frame{Kind: 2, Source: 31, Target: 30, List: 255, Sequence: 255, Error: 32767}, 832},
	} {
		n, e := frame.Time(x.f)
		if n != x.time || e != api.OK {
			t.Errorf("Time(%+v) = %d %v, want %d", x.f, n, e, x.time)
		}
		if end := api.GuardTime + api.TxOffset + n + api.AckDelay + 832; end > api.SlotTime {
			t.Errorf("a frame with its acknowledgement ends at %d", end)
		}
	}
}

// P13.1: strings of 0 to 3 bytes.
func TestShort(t *testing.T) {
	decoded(t, "", api.ErrShort)
	for n := range 256 {
		decoded(t, string([]byte{byte(n)}), api.ErrShort)
		decoded(t, crc.Protect(string([]byte{byte(n)})), api.ErrCorrupt)
		decoded(t, crc.Protect(string([]byte{byte(n)}))[:2]+"\x01", api.ErrCorrupt)
	}
	decoded(t, crc.Protect(""), api.ErrCorrupt)
	decoded(t, "\x00\x01", api.ErrCorrupt)
	decoded(t, "\xff\xff", api.ErrCorrupt)
}

// P13.1: strings of the greatest length, and of one more byte.
func TestGreatest(t *testing.T) {
	f := with(loud(), func(f *api.Frame) { f.Data = text(121) })
	s := sent(t, f)
	if len(s) != api.MaxFrame {
		t.Fatalf("%d bytes", len(s))
	}
	decoded(t, s+"\x00", api.ErrTooLarge)
	decoded(t, crc.Protect(s[:125]+"\x00"), api.ErrTooLarge)
	decoded(t, text(127), api.ErrCorrupt)
	decoded(t, text(128), api.ErrTooLarge)
	decoded(t, strings.Repeat("\x00", 128), api.ErrTooLarge)
	decoded(t, strings.Repeat("\x00", 127), api.ErrCorrupt)
	decoded(t, text(api.MaxData+1), api.ErrTooLarge)
	// What has the length of a frame with more data than fits is too large, even if all is right otherwise.
	for n := 122; n <= 127; n++ {
		f.Data = text(n)
		decoded(t, crc.Protect(pack(bits(f))), api.ErrTooLarge)
	}
}

// P13.1, P13.4: a right check sum over bits that are no frame.
func TestCorrupt(t *testing.T) {
	for _, f := range samples() {
		d := bits(f)
		for cut := 8; cut < len(d); cut += 8 {
			decoded(t, crc.Protect(pack(d[:cut])), api.ErrCorrupt)
		}
		decoded(t, crc.Protect(pack(d)+"\x00"), api.ErrCorrupt)
		decoded(t, crc.Protect(pack(d)+"\x01"), api.ErrCorrupt)
		decoded(t, crc.Protect(pack(d)+pack(d)), api.ErrCorrupt)
		for last := len(d); last%8 != 0; last++ {
			decoded(t, crc.Protect(flip(pack(d), last)), api.ErrCorrupt)
		}
		for _, kind := range []int{0, 5, 6, 7} {
			decoded(t, crc.Protect(pack(fmt.Sprintf("%03b", kind)+d[3:])), api.ErrCorrupt)
		}
	}
	for kind := range 8 {
		for n := range 40 {
			decoded(t, crc.Protect(pack(fmt.Sprintf("%03b", kind)+strings.Repeat("1", n))), api.ErrCorrupt)
		}
	}
}

// P13.1, P13.4: a right check sum over frames that are not valid.
func TestNotValid(t *testing.T) {
	for _, f := range []api.Frame{
		with(data(), func(f *api.Frame) { f.Target = -1 }),
		with(data(), func(f *api.Frame) { f.Target = f.Source }),
		with(ack(), func(f *api.Frame) { f.Target = -1 }),
		with(ack(), func(f *api.Frame) { f.Target = f.Source }),
		with(beacon(), func(f *api.Frame) { f.Target = 0 }),
		with(beacon(), func(f *api.Frame) { f.Target = f.Source }),
		with(beacon(), func(f *api.Frame) { f.Slot = slots + 1 }),
		with(beacon(), func(f *api.Frame) { f.Slot = 1<<27 - 1 }),
		with(message(), func(f *api.Frame) { f.Target = f.Source }),
		with(message(), func(f *api.Frame) { f.Kind = 7 }),
	} {
		decoded(t, crc.Protect(pack(bits(f))), api.ErrCorrupt)
	}
	sent(t, with(beacon(), func(f *api.Frame) { f.Slot = slots }))
}

// P13.4: one or two wrong bits, at each place.
func TestWrongBits(t *testing.T) {
	for _, f := range append(samples(), with(data(), func(f *api.Frame) { f.Data = text(117) })) {
		s, _ := frame.Encode(f)
		for i := range 8 * len(s) {
			decoded(t, flip(s, i), api.ErrCorrupt)
			for j := range i {
				if _, e := frame.Decode(flip(s, i, j)); e != api.ErrCorrupt {
					t.Fatalf("wrong bits %d and %d: %v", i, j, e)
				}
			}
		}
	}
}

// P13.4: random frames are restored, random strings are accepted only if they are encoded so.
func TestDecodeRandom(t *testing.T) {
	next := random(13)
	for range 20000 {
		f := some(next, 110)
		s := sent(t, f)
		if n, e := frame.Time(f); e != api.OK || n < 32*12 || n > 32*133 {
			t.Errorf("Time(%+v) = %d %v", f, n, e)
		}
		// A body that is changed somewhere gets a right check sum.
		body := flip(s[:len(s)-2], next(8*(len(s)-2)-1))
		accepted(t, crc.Protect(body))
		accepted(t, crc.Protect(text(next(125))))
	}
}

// accepted reports whether a string is accepted exactly if Encode returns it.
func accepted(t *testing.T, s string) {
	t.Helper()
	f, e := frame.Decode(s)
	if e != api.OK {
		if e != api.ErrCorrupt || f != (api.Frame{}) {
			t.Errorf("Decode(%x) = %+v %v", s, f, e)
		}
		return
	}
	if again, e := frame.Encode(f); again != s || e != api.OK {
		t.Errorf("%x is decoded, but %+v has the bytes %x %v", s, f, again, e)
	}
}

// P13.4: each string that has few bits of content is accepted exactly if it is that of a frame.
func TestDecodeAll(t *testing.T) {
	base := pack(bits(api.Frame{Kind: 4, Target: -1}))
	for i := range 1 << 16 {
		accepted(t, crc.Protect(string([]byte{byte(i), byte(i >> 8)})+base[2:]))
		accepted(t, crc.Protect(base[:2]+string([]byte{byte(i), byte(i >> 8)})))
		accepted(t, crc.Protect(base[:3]+string([]byte{byte(i), byte(i >> 8)})))
	}
}

// P13.3: the acknowledgements of frames of each Kind.
func TestAck(t *testing.T) {
	for _, f := range samples() {
		answered := f.Kind == 1 || f.Kind == 4 && f.Target >= 0
		for _, list := range []int{0, 1, 128, 254, 255} {
			for _, n := range []int{-32768, -32767, -1, 0, 1, 32766, 32767} {
				a, e := frame.Ack(f, list, n)
				if !answered {
					if a != (api.Frame{}) || e != api.ErrArg {
						t.Errorf("Ack(%+v) = %+v %v", f, a, e)
					}
					continue
				}
				want := api.Frame{Kind: 2, Source: f.Target, Target: f.Source, List: list, Sequence: f.Sequence, Error: n}
				if a != want || e != api.OK {
					t.Errorf("Ack(%+v, %d, %d) = %+v %v", f, list, n, a, e)
				}
				sent(t, a)
			}
		}
	}
}

// P13.3, P1: lists and differences that are out of range; a wrong frame goes ahead.
func TestAckRange(t *testing.T) {
	for _, f := range samples() {
		want := api.ErrRange
		if f.Kind == 2 || f.Target < 0 {
			want = api.ErrArg
		}
		for _, n := range append([]int{-1, 256}, extremes...) {
			for _, d := range []int{0, n} {
				if a, e := frame.Ack(f, n, d); a != (api.Frame{}) || e != want {
					t.Errorf("Ack(%+v, %d, %d) = %+v %v", f, n, d, a, e)
				}
			}
		}
		for _, n := range append([]int{-32769, 32768}, extremes...) {
			if a, e := frame.Ack(f, 7, n); a != (api.Frame{}) || e != want {
				t.Errorf("Ack(%+v, 7, %d) = %+v %v", f, n, a, e)
			}
		}
	}
}

// P13.3: each field of the acknowledgement matters, but for its own List and Error.
func TestAnswers(t *testing.T) {
	for _, f := range []api.Frame{data(), message()} {
		a, _ := frame.Ack(f, 3, -5)
		if !frame.Answers(f, a) {
			t.Errorf("Answers(%+v, %+v)", f, a)
		}
		for _, list := range []int{0, 3, 255} {
			for _, n := range []int{-32768, 0, 32767} {
				b := with(a, func(f *api.Frame) { f.List, f.Error = list, n })
				if !frame.Answers(f, b) {
					t.Errorf("Answers(%+v, %+v)", f, b)
				}
			}
		}
		for _, b := range []api.Frame{
			with(a, func(f *api.Frame) { f.Kind = 1 }),
			with(a, func(f *api.Frame) { f.Kind = 4 }),
			with(a, func(f *api.Frame) { f.Kind = 0 }),
			with(a, func(f *api.Frame) { f.Source++ }),
			with(a, func(f *api.Frame) { f.Target++ }),
			with(a, func(f *api.Frame) { f.Target = -1 }),
			with(a, func(f *api.Frame) { f.Source, f.Target = f.Target, f.Source }),
			with(a, func(f *api.Frame) { f.Sequence++ }),
			with(a, func(f *api.Frame) { f.Sequence-- }),
			with(a, func(f *api.Frame) { f.Flow = 3 }),
			with(a, func(f *api.Frame) { f.Number = 300 }),
			with(a, func(f *api.Frame) { f.Slot = 1 }),
			with(a, func(f *api.Frame) { f.Rank = 1 }),
			with(a, func(f *api.Frame) { f.Epoch = 1 }),
			with(a, func(f *api.Frame) { f.Data = "abc" }),
			with(a, func(f *api.Frame) { f.List = 256 }),
			with(a, func(f *api.Frame) { f.List = -1 }),
			with(a, func(f *api.Frame) { f.Error = 32768 }),
			with(a, func(f *api.Frame) { f.Error = -32769 }),
		} {
			if frame.Answers(f, b) {
				t.Errorf("Answers(%+v, %+v)", f, b)
			}
		}
		if frame.Answers(a, f) || frame.Answers(f, f) || frame.Answers(a, a) {
			t.Errorf("Answers the wrong way round for %+v", f)
		}
	}
}

// P13.3: frames that nobody acknowledges.
func TestAnswersNever(t *testing.T) {
	for _, f := range []api.Frame{ack(), beacon(), loud()} {
		for _, source := range []int{-1, 0, 1, 2, 31} {
			a := api.Frame{Kind: 2, Source: source, Target: f.Source, Sequence: f.Sequence}
			b := api.Frame{Kind: 2, Source: f.Target, Target: f.Source, List: source, Sequence: f.Sequence}
			if frame.Answers(f, a) || frame.Answers(f, b) {
				t.Errorf("Answers(%+v, %+v)", f, a)
			}
		}
	}
}

// P13.3: whom a frame is for.
func TestFor(t *testing.T) {
	next := random(7)
	for range 500 {
		f := some(next, 200)
		for n := -3; n <= api.MaxNodes+3; n++ {
			want := n >= 0 && n <= 31 && (n == f.Target || f.Target == -1 && n != f.Source)
			if frame.For(f, n) != want {
				t.Errorf("For(%+v, %d) is %v", f, n, !want)
			}
		}
		for _, n := range extremes {
			if frame.For(f, n) {
				t.Errorf("For(%+v, %d)", f, n)
			}
		}
	}
	for _, f := range []api.Frame{beacon(), loud()} {
		if frame.For(f, -1) || frame.For(f, 5) || frame.For(f, 32) || !frame.For(f, 0) || !frame.For(f, 31) {
			t.Errorf("For(%+v)", f)
		}
	}
}

// P13.4: what the air brings is what was sent; the writer of the layer below writes the same bits.
func TestLayers(t *testing.T) {
	f := data()
	w := bitio.NewWriter()
	w.Unsigned(3, f.Kind)
	w.Unsigned(5, f.Source)
	w.Flag(true)
	w.Unsigned(5, f.Target)
	w.Unsigned(8, f.List)
	w.Unsigned(8, f.Sequence)
	w.Unsigned(8, f.Flow)
	w.Unsigned(16, f.Number)
	w.Text(127, f.Data)
	b, _ := w.Bytes()
	if s := sent(t, f); s != crc.Protect(b) {
		t.Errorf("%x", s)
	}
}
