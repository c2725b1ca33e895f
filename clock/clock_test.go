package clock_test

import (
	"math"
	"math/big"
	"testing"

	"hopmesh/api"
	"hopmesh/clock"
)

const (
	far      = 1 << 40                    // the greatest offset
	lastSlot = api.MaxTime / api.SlotTime // 109951162
	rest     = api.MaxTime - lastSlot*api.SlotTime
	slowed   = 109951163 // by which a clock with the drift -100000 is behind at MaxTime
	hurried  = 109951162 // by which one with the drift 100000 is ahead
)

// extremes are numbers that nothing allows.
var extremes = []int{math.MinInt, math.MinInt + 1, -1 << 42, 1 << 42, math.MaxInt - 1, math.MaxInt}

// cl returns a clock.
func cl(offset, drift int) api.Clock { return api.Clock{Offset: offset, Drift: drift} }

// valid returns clocks that are valid, most of them at an end of what is allowed.
func valid() []api.Clock {
	var l []api.Clock
	for _, offset := range []int{0, 1, -1, 5, 12345, -10000, -2120, far, -far, far - 1, 1 - far} {
		for _, drift := range []int{0, 1, -1, 31415, -27182, api.MaxDrift, -api.MaxDrift} {
			l = append(l, cl(offset, drift))
		}
	}
	return l
}

// wrong returns clocks that each have one fault, or two.
func wrong() []api.Clock {
	l := []api.Clock{cl(far+1, 0), cl(-far-1, 0), cl(0, api.MaxDrift+1), cl(0, -api.MaxDrift-1), cl(far+1, api.MaxDrift+1)}
	for _, n := range extremes {
		l = append(l, cl(n, 0), cl(0, n), cl(n, n))
	}
	return l
}

// random returns a function that gives numbers from 0 to most, which follow from a seed.
func random(seed uint64) func(most int) int {
	return func(most int) int {
		seed = seed*6364136223846793005 + 1442695040888963407
		return int(seed>>16) % (most + 1)
	}
}

// randomClock returns a clock, half of them near 0.
func randomClock(roll func(int) int) api.Clock {
	c := cl(roll(2*far)-far, roll(2*api.MaxDrift)-api.MaxDrift)
	if roll(1) == 0 {
		c.Offset %= 100000
	}
	return c
}

// show computes what a clock shows, with numbers of any size.
func show(c api.Clock, t int) int {
	drifted := new(big.Int).Mul(big.NewInt(int64(t)), big.NewInt(int64(c.Drift)))
	// The quotient of Div rounds down, since the divisor is positive.
	drifted.Div(drifted, big.NewInt(1000000000))
	return c.Offset + t + int(drifted.Int64())
}

// leastTime checks whether a time is the first one at which a clock shows x or more, and whether there is none if it is late.
func leastTime(c api.Clock, x, t int, e api.Errno) bool {
	if e == api.ErrLate {
		return t == 0 && show(c, api.MaxTime) < x
	}
	return e == api.OK && t >= 0 && t <= api.MaxTime && show(c, t) >= x && (t == 0 || show(c, t-1) < x)
}

// lastTime checks whether a time is the last one at which a clock shows at most x, and -1 if there is none.
func lastTime(c api.Clock, x, t int) bool {
	return t >= -1 && t < api.MaxTime && show(c, t+1) > x && (t < 0 || show(c, t) <= x)
}

// P8.1: which clocks are valid.
func TestCheck(t *testing.T) {
	for _, c := range append(valid(), api.Clock{}) {
		if e := clock.Check(c); e != api.OK {
			t.Errorf("%v: %v", c, e)
		}
	}
	for _, c := range wrong() {
		if e := clock.Check(c); e != api.ErrArg {
			t.Errorf("%v: %v", c, e)
		}
	}
}

// P8.1 to P8.3: a clock that is not valid is named before all other errors.
func TestWrongClocks(t *testing.T) {
	for _, c := range wrong() {
		for _, n := range append([]int{0, -1, api.MaxTime, api.MaxTime + 1}, extremes...) {
			if k, e := clock.Show(c, n); k != 0 || e != api.ErrArg {
				t.Errorf("Show of %v at %d: %d %v", c, n, k, e)
			}
			if k, e := clock.Reach(c, n); k != 0 || e != api.ErrArg {
				t.Errorf("Reach of %v: %d: %d %v", c, n, k, e)
			}
			if k, e := clock.Adjust(c, n); k != (api.Clock{}) || e != api.ErrArg {
				t.Errorf("Adjust of %v by %d: %v %v", c, n, k, e)
			}
			if k, e := clock.Begin(c, n); k != 0 || e != api.ErrArg {
				t.Errorf("Begin of %v in %d: %d %v", c, n, k, e)
			}
			if k, e := clock.Send(c, n); k != 0 || e != api.ErrArg {
				t.Errorf("Send of %v in %d: %d %v", c, n, k, e)
			}
			if k, m, e := clock.Window(c, n); k != 0 || m != 0 || e != api.ErrArg {
				t.Errorf("Window of %v in %d: %d %d %v", c, n, k, m, e)
			}
			if k, e := clock.Slot(c, n); k != 0 || e != api.ErrArg {
				t.Errorf("Slot of %v at %d: %d %v", c, n, k, e)
			}
			for _, l := range [][2]api.Clock{{c, cl(0, 0)}, {cl(0, 0), c}, {c, c}} {
				if k, e := clock.Apart(l[0], l[1], n); k != 0 || e != api.ErrArg {
					t.Errorf("Apart of %v at %d: %d %v", l, n, k, e)
				}
			}
		}
	}
}

// P8.1: what clocks show.
func TestShow(t *testing.T) {
	for _, x := range []struct {
		c       api.Clock
		t, want int
	}{
		{cl(5, -100000), 0, 5}, {cl(5, -100000), 1, 5}, {cl(5, -100000), 2, 6}, {cl(5, -100000), 10000, 10004}, {cl(5, -100000), 9995, 9999}, {cl(5, -100000), 10001, 10004}, {cl(5, -100000), 9999, 10003},
		{cl(0, 0), 0, 0}, {cl(0, 0), 7, 7}, {cl(0, 0), api.MaxTime, api.MaxTime}, {cl(-20, 0), 7, -13}, {cl(far, 0), api.MaxTime, 2 * far}, {cl(-far, 0), 0, -far}, {cl(-far, 0), api.MaxTime, 0},
		{cl(0, 100000), 9999, 9999}, {cl(0, 100000), 10000, 10001}, {cl(0, 100000), 19999, 20000}, {cl(0, 100000), 20000, 20002}, {cl(0, -100000), 1, 0}, {cl(0, -100000), 20000, 19998}, {cl(0, -100000), 20001, 19998},
		{cl(0, 1), 999999999, 999999999}, {cl(0, 1), 1000000000, 1000000001}, {cl(0, -1), 1, 0}, {cl(0, -1), 1000000000, 999999999}, {cl(0, -1), 1000000001, 999999999},
		{cl(0, 100000), api.MaxTime, api.MaxTime + hurried}, {cl(0, -100000), api.MaxTime, api.MaxTime - slowed}, {cl(far, 100000), api.MaxTime, 2*far + hurried}, {cl(-far, -100000), api.MaxTime, -slowed}, {cl(-far, 100000), api.MaxTime, hurried},
	} {
		if n, e := clock.Show(x.c, x.t); n != x.want || e != api.OK {
			t.Errorf("%v at %d: %d %v, want %d", x.c, x.t, n, e, x.want)
		}
	}
}

// P8.1, P8.3: numbers that are no times.
func TestTimes(t *testing.T) {
	for _, c := range []api.Clock{cl(0, 0), cl(-5, 100000), cl(-far, 0)} {
		for _, n := range append([]int{-1, api.MaxTime + 1}, extremes...) {
			if k, e := clock.Show(c, n); k != 0 || e != api.ErrRange {
				t.Errorf("Show of %v at %d: %d %v", c, n, k, e)
			}
			if k, e := clock.Slot(c, n); k != 0 || e != api.ErrRange {
				t.Errorf("Slot of %v at %d: %d %v", c, n, k, e)
			}
			for _, d := range []api.Clock{c, cl(7, 7)} {
				if k, e := clock.Apart(c, d, n); k != 0 || e != api.ErrRange {
					t.Errorf("Apart of %v and %v at %d: %d %v", c, d, n, k, e)
				}
			}
		}
	}
}

// P8.1: when clocks reach what they show at the time 0 already, at MaxTime alone, and between.
func TestReach(t *testing.T) {
	for _, x := range []struct {
		c       api.Clock
		x, want int
	}{
		{cl(5, -100000), 10000, 9996}, {cl(5, -100000), 5, 0}, {cl(5, -100000), 6, 2}, {cl(5, -100000), 10004, 10000},
		{cl(0, 0), 0, 0}, {cl(0, 0), -1, 0}, {cl(0, 0), 1, 1}, {cl(0, 0), math.MinInt, 0}, {cl(0, 0), api.MaxTime, api.MaxTime}, {cl(0, 0), api.MaxTime - 1, api.MaxTime - 1}, {cl(50, 0), 50, 0}, {cl(50, 0), 49, 0}, {cl(50, 0), 51, 1}, {cl(-50, 0), 0, 50}, {cl(-50, 0), -50, 0}, {cl(-50, 0), -49, 1}, {cl(-50, 0), api.MaxTime - 50, api.MaxTime},
		// what a fast clock leaves out
		{cl(0, 100000), 9999, 9999}, {cl(0, 100000), 10000, 10000}, {cl(0, 100000), 10001, 10000}, {cl(0, 100000), 10002, 10001},
		{cl(0, 100000), api.MaxTime + hurried, api.MaxTime}, {cl(0, -100000), api.MaxTime - slowed, api.MaxTime}, {cl(0, -100000), 9999, 10000}, {cl(-far, 0), 0, api.MaxTime}, {cl(far, 0), 2 * far, api.MaxTime}, {cl(far, 0), far, 0}, {cl(-far, -100000), -far, 0},
	} {
		if n, e := clock.Reach(x.c, x.x); n != x.want || e != api.OK {
			t.Errorf("%v: %d at %d %v, want %d", x.c, x.x, n, e, x.want)
		}
	}
	for _, x := range []struct {
		c api.Clock
		x int
	}{
		{cl(0, 0), api.MaxTime + 1}, {cl(0, 0), math.MaxInt}, {cl(0, 0), math.MaxInt - 1}, {cl(-50, 0), api.MaxTime - 49}, {cl(50, 0), api.MaxTime + 51}, {cl(0, 100000), api.MaxTime + hurried + 1}, {cl(0, -100000), api.MaxTime - slowed + 1}, {cl(-far, 0), 1}, {cl(far, 0), 2*far + 1}, {cl(-far, -100000), -slowed + 1},
	} {
		if n, e := clock.Reach(x.c, x.x); n != 0 || e != api.ErrLate {
			t.Errorf("%v: %d at %d %v", x.c, x.x, n, e)
		}
	}
}

// P8.1: random clocks show and reach what follows directly from the definitions.
func TestRandomTimes(t *testing.T) {
	roll := random(1)
	for range 20000 {
		c, time := randomClock(roll), roll(api.MaxTime)
		shown, e := clock.Show(c, time)
		if shown != show(c, time) || e != api.OK {
			t.Fatalf("%v at %d: %d %v", c, time, shown, e)
		}
		x := shown + roll(4) - 2
		if n, e := clock.Reach(c, x); !leastTime(c, x, n, e) {
			t.Fatalf("%v: %d at %d %v", c, x, n, e)
		}
		x = roll(4*far) - 2*far
		if n, e := clock.Reach(c, x); !leastTime(c, x, n, e) {
			t.Fatalf("%v: %d at %d %v", c, x, n, e)
		}
	}
}

// P8.1: the adjusted clock, as far as there is one.
func TestAdjust(t *testing.T) {
	for _, x := range []struct {
		c       api.Clock
		d, want int
		tooFar  bool
	}{
		{cl(5, -100000), 0, 5, false}, {cl(5, -100000), 7, 12, false}, {cl(5, 3), -7, -2, false}, {cl(0, 0), far, far, false}, {cl(0, 0), -far, -far, false}, {cl(0, 0), far + 1, 0, true}, {cl(0, 0), -far - 1, 0, true},
		{cl(far, 9), 0, far, false}, {cl(far, 9), 1, 0, true}, {cl(far, 9), -2 * far, -far, false}, {cl(far, 9), -2*far - 1, 0, true}, {cl(-far, 9), 2 * far, far, false}, {cl(-far, 9), 2*far + 1, 0, true}, {cl(-far, 9), -1, 0, true}, {cl(1, 9), far, 0, true}, {cl(1, 9), far - 1, far, false}, {cl(-1, 9), -far, 0, true}, {cl(-1, 9), 1 - far, -far, false},
		{cl(far, 0), math.MaxInt, 0, true}, {cl(far, 0), math.MinInt, 0, true}, {cl(-far, 0), math.MinInt, 0, true}, {cl(-far, 0), math.MaxInt, 0, true}, {cl(0, 0), math.MaxInt, 0, true}, {cl(-1, 0), math.MinInt, 0, true},
	} {
		want, wantError := cl(x.want, x.c.Drift), api.OK
		if x.tooFar {
			want, wantError = api.Clock{}, api.ErrArg
		}
		if c, e := clock.Adjust(x.c, x.d); c != want || e != wantError {
			t.Errorf("%v by %d: %v %v", x.c, x.d, c, e)
		}
	}
}

// P8.2: when slots and frames begin, and the windows of slots.
func TestSlots(t *testing.T) {
	for _, x := range []struct {
		c                        api.Clock
		slot                     int
		begin, send, first, last int
	}{
		{cl(0, 0), 0, 0, 2120, 1020, 3220}, {cl(0, 0), 1, 10000, 12120, 11020, 13220}, {cl(0, 0), 7, 70000, 72120, 71020, 73220}, {cl(0, 0), lastSlot, api.MaxTime - rest, api.MaxTime - rest + 2120, api.MaxTime - rest + 1020, api.MaxTime - rest + 3220},
		{cl(5, -100000), 1, 9996, 12117, 11017, 13217}, {cl(40, 0), 1, 9960, 12080, 10980, 13180}, {cl(-40, 0), 0, 40, 2160, 1060, 3260},
		// two times with one of the ends of the window, and a fast clock that leaves them out
		{cl(0, -100000), 0, 0, 2121, 1021, 3221}, {cl(8980, 100000), 1, 1020, 3140, 2040, 4240}, {cl(6780, 100000), 1, 3220, 5340, 4240, 6440}, {cl(1020, 100000), 1, 8980, 11099, 10000, 12199}, {cl(1019, 100000), 1, 8981, 11100, 10000, 12200}, {cl(3220, 100000), 1, 6780, 8900, 7800, 9999},
		// what is shown at the time 0 already
		{cl(1, 0), 0, 0, 2119, 1019, 3219}, {cl(1019, 0), 0, 0, 1101, 1, 2201}, {cl(1020, 0), 0, 0, 1100, 0, 2200}, {cl(1021, 0), 0, 0, 1099, 0, 2199}, {cl(2119, 0), 0, 0, 1, 0, 1101}, {cl(2120, 0), 0, 0, 0, 0, 1100}, {cl(2121, 0), 0, 0, 0, 0, 1099}, {cl(3219, 0), 0, 0, 0, 0, 1}, {cl(3220, 0), 0, 0, 0, 0, 0}, {cl(3221, 0), 0, 0, 0, 0, -1}, {cl(3220, -100000), 0, 0, 0, 0, 1}, {cl(3220, 100000), 0, 0, 0, 0, 0}, {cl(9000, 0), 0, 0, 0, 0, -1}, {cl(9000, 0), 1, 1000, 3120, 2020, 4220}, {cl(far, 0), lastSlot, 0, 0, 0, -1}, {cl(far, -100000), 0, 0, 0, 0, -1},
		// what is shown at MaxTime alone
		{cl(3221-rest, 0), lastSlot, api.MaxTime - 3221, api.MaxTime - 1101, api.MaxTime - 2201, api.MaxTime - 1}, {cl(3221-far, 0), 0, api.MaxTime - 3221, api.MaxTime - 1101, api.MaxTime - 2201, api.MaxTime - 1},
	} {
		if n, e := clock.Begin(x.c, x.slot); n != x.begin || e != api.OK {
			t.Errorf("Begin of %v in %d: %d %v, want %d", x.c, x.slot, n, e, x.begin)
		}
		if n, e := clock.Send(x.c, x.slot); n != x.send || e != api.OK {
			t.Errorf("Send of %v in %d: %d %v, want %d", x.c, x.slot, n, e, x.send)
		}
		if n, m, e := clock.Window(x.c, x.slot); n != x.first || m != x.last || e != api.OK {
			t.Errorf("Window of %v in %d: %d %d %v, want %d %d", x.c, x.slot, n, m, e, x.first, x.last)
		}
	}
}

// P8.2: slots that are none, and slots that a clock does not reach; in some of those a frame can still be sent.
func TestSlotErrors(t *testing.T) {
	for _, x := range []struct {
		c                   api.Clock
		slot                int
		begin, send, window api.Errno
	}{
		{cl(0, 0), -1, api.ErrRange, api.ErrRange, api.ErrRange}, {cl(0, 0), lastSlot + 1, api.ErrRange, api.ErrRange, api.ErrRange}, {cl(far, 0), lastSlot + 1, api.ErrRange, api.ErrRange, api.ErrRange}, {cl(-far, 0), lastSlot + 1, api.ErrRange, api.ErrRange, api.ErrRange}, {cl(far, 0), -1, api.ErrRange, api.ErrRange, api.ErrRange},
		{cl(0, 0), lastSlot, api.OK, api.OK, api.OK}, {cl(3221-rest, 0), lastSlot, api.OK, api.OK, api.OK}, {cl(3220-rest, 0), lastSlot, api.OK, api.OK, api.ErrLate}, {cl(2120-rest, 0), lastSlot, api.OK, api.OK, api.ErrLate}, {cl(2119-rest, 0), lastSlot, api.OK, api.ErrLate, api.ErrLate}, {cl(1020-rest, 0), lastSlot, api.OK, api.ErrLate, api.ErrLate}, {cl(-rest, 0), lastSlot, api.OK, api.ErrLate, api.ErrLate}, {cl(-1-rest, 0), lastSlot, api.ErrLate, api.ErrLate, api.ErrLate},
		{cl(0, -100000), lastSlot, api.ErrLate, api.ErrLate, api.ErrLate}, {cl(slowed-rest, -100000), lastSlot, api.OK, api.ErrLate, api.ErrLate}, {cl(slowed-rest-1, -100000), lastSlot, api.ErrLate, api.ErrLate, api.ErrLate}, {cl(slowed-rest+2120, -100000), lastSlot, api.OK, api.OK, api.ErrLate}, {cl(slowed-rest+3221, -100000), lastSlot, api.OK, api.OK, api.OK}, {cl(slowed-rest+3220, -100000), lastSlot, api.OK, api.OK, api.ErrLate},
		{cl(-far, 0), 0, api.OK, api.ErrLate, api.ErrLate}, {cl(-far, 0), 1, api.ErrLate, api.ErrLate, api.ErrLate}, {cl(-far, -1), 0, api.ErrLate, api.ErrLate, api.ErrLate}, {cl(-far, 100000), hurried / api.SlotTime, api.OK, api.ErrLate, api.ErrLate},
	} {
		if n, e := clock.Begin(x.c, x.slot); n < 0 || e != x.begin || e != api.OK && n != 0 {
			t.Errorf("Begin of %v in %d: %d %v, want %v", x.c, x.slot, n, e, x.begin)
		}
		if n, e := clock.Send(x.c, x.slot); n < 0 || e != x.send || e != api.OK && n != 0 {
			t.Errorf("Send of %v in %d: %d %v, want %v", x.c, x.slot, n, e, x.send)
		}
		if n, m, e := clock.Window(x.c, x.slot); e != x.window || e != api.OK && (n != 0 || m != 0) {
			t.Errorf("Window of %v in %d: %d %d %v, want %v", x.c, x.slot, n, m, e, x.window)
		}
	}
	for _, n := range extremes {
		_, e := clock.Begin(cl(0, 0), n)
		_, f := clock.Send(cl(0, 0), n)
		_, _, g := clock.Window(cl(0, 0), n)
		if e != api.ErrRange || f != api.ErrRange || g != api.ErrRange {
			t.Error(n, e, f, g)
		}
	}
}

// P8.2: random slots and windows against what follows directly from the definitions.
func TestRandomSlots(t *testing.T) {
	roll := random(2)
	for range 10000 {
		c, slot := randomClock(roll), roll(lastSlot)
		if roll(1) == 0 {
			slot %= 20
		}
		x := slot * 10000
		if n, e := clock.Begin(c, slot); !leastTime(c, x, n, e) {
			t.Fatalf("Begin of %v in %d: %d %v", c, slot, n, e)
		}
		if n, e := clock.Send(c, slot); !leastTime(c, x+2120, n, e) {
			t.Fatalf("Send of %v in %d: %d %v", c, slot, n, e)
		}
		n, m, e := clock.Window(c, slot)
		if e == api.ErrLate && n == 0 && m == 0 && show(c, api.MaxTime) < x+3221 {
			continue
		}
		if !leastTime(c, x+1020, n, e) || !lastTime(c, x+3220, m) {
			t.Fatalf("Window of %v in %d: %d %d %v", c, slot, n, m, e)
		}
	}
}

// P8.3: the slot of which a clock shows a time, if it does not show less than 0.
func TestSlot(t *testing.T) {
	for _, x := range []struct {
		c       api.Clock
		t, want int
		e       api.Errno
	}{
		{cl(0, 0), 0, 0, api.OK}, {cl(0, 0), 9999, 0, api.OK}, {cl(0, 0), 10000, 1, api.OK}, {cl(0, 0), 19999, 1, api.OK}, {cl(0, 0), api.MaxTime, lastSlot, api.OK}, {cl(5, -100000), 9995, 0, api.OK}, {cl(5, -100000), 9996, 1, api.OK}, {cl(0, 100000), 19999, 2, api.OK}, {cl(0, 100000), 19998, 1, api.OK}, {cl(0, -100000), 1, 0, api.OK},
		{cl(-1, 0), 0, 0, api.ErrEmpty}, {cl(-1, 0), 1, 0, api.OK}, {cl(-1, -100000), 1, 0, api.ErrEmpty}, {cl(-1, -100000), 2, 0, api.OK}, {cl(-1, 0), 10000, 0, api.OK}, {cl(-1, 0), 10001, 1, api.OK}, {cl(-10000, 0), 0, 0, api.ErrEmpty}, {cl(-10001, 0), 1, 0, api.ErrEmpty}, {cl(-far, 0), 0, 0, api.ErrEmpty}, {cl(-far, 0), api.MaxTime - 1, 0, api.ErrEmpty}, {cl(-far, 0), api.MaxTime, 0, api.OK}, {cl(-far, -1), api.MaxTime, 0, api.ErrEmpty},
		{cl(far, 0), api.MaxTime, 2 * far / 10000, api.OK}, {cl(far, 100000), api.MaxTime, (2*far + hurried) / 10000, api.OK}, {cl(-far, 0), -1, 0, api.ErrRange}, {cl(-far, 0), api.MaxTime + 1, 0, api.ErrRange},
	} {
		if n, e := clock.Slot(x.c, x.t); n != x.want || e != x.e {
			t.Errorf("%v at %d: %d %v, want %d %v", x.c, x.t, n, e, x.want, x.e)
		}
	}
}

// P8.3: by how much clocks differ.
func TestApart(t *testing.T) {
	for _, x := range []struct {
		a, b    api.Clock
		t, want int
	}{
		{cl(0, 0), cl(0, 0), 0, 0}, {cl(0, 0), cl(40, 0), 0, 40}, {cl(40, 0), cl(0, 0), 77, -40}, {cl(5, -100000), cl(0, 0), 10000, -4}, {cl(0, 0), cl(5, -100000), 10000, 4}, {cl(5, -100000), cl(5, -100000), 9999, 0}, {cl(0, 100000), cl(0, -100000), 10000, -2}, {cl(0, 100000), cl(0, -100000), 9999, -1}, {cl(0, 100000), cl(0, 0), 9999, 0}, {cl(7, 1), cl(7, 2), 0, 0}, {cl(7, 1), cl(8, 1), 0, 1}, {cl(7, 1), cl(7, 2), 500000000, 1},
		{cl(-far, 0), cl(far, 0), 0, 2 * far}, {cl(far, -100000), cl(-far, 100000), api.MaxTime, -2*far + hurried + slowed}, {cl(0, -100000), cl(0, 100000), api.MaxTime, hurried + slowed}, {cl(-far, 0), cl(-far, 0), api.MaxTime, 0},
	} {
		if n, e := clock.Apart(x.a, x.b, x.t); n != x.want || e != api.OK {
			t.Errorf("%v and %v at %d: %d %v, want %d", x.a, x.b, x.t, n, e, x.want)
		}
	}
	roll := random(3)
	for range 5000 {
		a, b, time := randomClock(roll), randomClock(roll), roll(api.MaxTime)
		if n, e := clock.Apart(a, b, time); n != show(b, time)-show(a, time) || e != api.OK {
			t.Fatalf("%v and %v at %d: %d %v", a, b, time, n, e)
		}
	}
}

// P8.4: a clock never goes back, and shows 0, 1 or 2 more a microsecond later.
func TestNeverBack(t *testing.T) {
	roll := random(4)
	for range 5000 {
		c, time := randomClock(roll), roll(api.MaxTime-1)
		switch roll(2) {
		case 0:
			time %= 30000
		case 1:
			// The drift steps at the multiples of its period.
			time = min(time-time%10000+roll(2), api.MaxTime-1)
		}
		now, e := clock.Show(c, time)
		next, f := clock.Show(c, time+1)
		if d := next - now; d < 0 || d > 2 || e != api.OK || f != api.OK {
			t.Fatalf("%v at %d: %d, then %d", c, time, now, next)
		}
		d := roll(api.MaxTime - time)
		later, e := clock.Show(c, time+d)
		if most := d*api.MaxDrift/1000000000 + 1; later-now > d+most || later-now < d-most || e != api.OK {
			t.Fatalf("%v from %d to %d: %d, then %d", c, time, time+d, now, later)
		}
	}
}

// P8.4, P3: what is sent by a clock begins within its own window, unless the window is over at the time 0 already.
func TestOwnWindow(t *testing.T) {
	roll := random(5)
	for _, c := range append(valid(), randomClock(roll), randomClock(roll), randomClock(roll)) {
		for range 200 {
			slot := roll(lastSlot)
			if roll(1) == 0 {
				slot %= 10
			}
			sent, e := clock.Send(c, slot)
			first, last, f := clock.Window(c, slot)
			if e != api.OK || f != api.OK {
				continue
			}
			if isOver := show(c, 0) > slot*10000+3220; isOver != (last == -1) || !isOver && (sent < first || sent > last) {
				t.Fatalf("%v in %d: sent at %d, window %d to %d", c, slot, sent, first, last)
			}
		}
	}
}

// P8.4: a slot begins before the next one, unless both begin at the time 0.
func TestSlotsFollow(t *testing.T) {
	roll := random(6)
	for _, c := range append(valid(), randomClock(roll), randomClock(roll), randomClock(roll)) {
		for range 200 {
			slot := roll(lastSlot - 1)
			if roll(1) == 0 {
				slot %= 10
			}
			n, e := clock.Begin(c, slot)
			m, f := clock.Begin(c, slot+1)
			if e != api.OK || f != api.OK {
				continue
			}
			if both := show(c, 0) >= (slot+1)*10000; both && (n != 0 || m != 0) || !both && n >= m {
				t.Fatalf("%v: slot %d at %d, the next one at %d", c, slot, n, m)
			}
			if is, e := clock.Slot(c, m); m > 0 && is != slot+1 || e != api.OK {
				t.Fatalf("%v: slot %d begins at %d, where slot %d is shown", c, slot+1, m, is)
			}
		}
	}
}

// P1: no call panics, whatever numbers there are, and with an error all else is zero.
func TestAllArguments(t *testing.T) {
	numbers := append([]int{-far - 1, -far, -100001, -100000, -1, 0, 1, 10000, 100000, 100001, lastSlot, lastSlot + 1, api.MaxTime - 1, api.MaxTime, api.MaxTime + 1}, extremes...)
	for _, a := range numbers {
		for _, b := range numbers {
			c := cl(a, b)
			for _, n := range numbers {
				shown, e := clock.Show(c, n)
				reached, f := clock.Reach(c, n)
				adjusted, g := clock.Adjust(c, n)
				if e != api.OK && shown != 0 || f != api.OK && reached != 0 || g != api.OK && adjusted != (api.Clock{}) {
					t.Errorf("%v with %d: %d %d %v", c, n, shown, reached, adjusted)
				}
				if right := clock.Check(c) == api.OK; right && g == api.OK && (adjusted != cl(a+n, b) || clock.Check(adjusted) != api.OK) || !right && (e != api.ErrArg || f != api.ErrArg || g != api.ErrArg) {
					t.Errorf("%v with %d: %v %v %v %v", c, n, e, f, adjusted, g)
				}
				begin, e := clock.Begin(c, n)
				send, f := clock.Send(c, n)
				first, last, g := clock.Window(c, n)
				if e != api.OK && begin != 0 || f != api.OK && send != 0 || g != api.OK && (first != 0 || last != 0) {
					t.Errorf("%v in %d: %d %d %d %d", c, n, begin, send, first, last)
				}
				slot, e := clock.Slot(c, n)
				apart, f := clock.Apart(c, cl(b, a), n)
				if e != api.OK && slot != 0 || f != api.OK && apart != 0 {
					t.Errorf("%v at %d: %d %d", c, n, slot, apart)
				}
			}
		}
	}
}
