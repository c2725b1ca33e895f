package guard_test

import (
	"math"
	"math/big"
	"testing"

	"hopmesh/api"
	"hopmesh/clock"
	"hopmesh/guard"
)

const (
	far      = 1 << 40                    // the greatest offset of a clock
	lastSlot = api.MaxTime / api.SlotTime // 109951162
	onAir    = 6088                       // from when a frame begins to the end of its slot
)

// extremes are numbers that nothing allows.
var extremes = []int{math.MinInt, math.MinInt + 1, -1 << 42, 1 << 42, math.MaxInt - 1, math.MaxInt}

// cl returns a clock.
func cl(offset, drift int) api.Clock { return api.Clock{Offset: offset, Drift: drift} }

// random returns a function that gives numbers from 0 to most, which follow from a seed.
func random(seed uint64) func(most int) int {
	return func(most int) int {
		seed = seed*6364136223846793005 + 1442695040888963407
		return int(seed>>16) % (most + 1)
	}
}

// within reports whether a number is from least to most.
func within(n, least, most int) bool { return n >= least && n <= most }

// edges returns the numbers around the ends of a range that begins with 0, and some far off.
func edges(most int) []int {
	return append([]int{-1, 0, 1, most - 1, most, most + 1}, extremes...)
}

// growth computes a growth with numbers of any size.
func growth(time, drift int) int {
	n := big.NewInt(int64(time))
	n.Mul(n, big.NewInt(int64(2*drift)))
	n.Div(n, big.NewInt(1000000000))
	return int(n.Int64()) + 2
}

// isLength checks with numbers of any size whether n is the length of a number of slots: n is enough, and one less is not.
func isLength(n, slots, drift int) bool {
	needed := new(big.Int).Mul(big.NewInt(int64(slots*10000+1)), big.NewInt(1000000000))
	slowest := big.NewInt(int64(1000000000 - drift))
	enough := new(big.Int).Mul(big.NewInt(int64(n)), slowest)
	tooFew := new(big.Int).Mul(big.NewInt(int64(n-1)), slowest)
	return enough.Cmp(needed) >= 0 && tooFew.Cmp(needed) < 0
}

// show computes what a valid clock shows.
func show(c api.Clock, t int) int {
	n, e := clock.Show(c, t)
	if e != api.OK {
		panic(e)
	}
	return n
}

// P9.1: growths at the ends of the ranges and between, and P1: arguments out of their ranges.
func TestGrowth(t *testing.T) {
	for _, x := range []struct{ time, drift, want int }{
		{1000000, 100000, 202}, {0, 0, 2}, {0, 100000, 2}, {1, 100000, 2}, {4999, 100000, 2}, {5000, 100000, 3}, {9999, 100000, 3}, {10000, 100000, 4}, {1000102, 100000, 202}, {500000000, 1, 3}, {499999999, 1, 2}, {1000000, 0, 2}, {api.MaxTime, 0, 2}, {api.MaxTime, 1, 2201}, {api.MaxTime, 100000, 219902327}, {api.MaxTime - 1, 100000, 219902327}, {7, 99999, 2}, {123456789, 54321, 13414},
	} {
		if n, e := guard.Growth(x.time, x.drift); n != x.want || e != api.OK {
			t.Errorf("%v: %d %v", x, n, e)
		}
	}
	for _, time := range edges(api.MaxTime) {
		for _, drift := range edges(api.MaxDrift) {
			n, e := guard.Growth(time, drift)
			if !within(time, 0, api.MaxTime) || !within(drift, 0, api.MaxDrift) {
				if n != 0 || e != api.ErrRange {
					t.Errorf("%d with %d: %d %v", time, drift, n, e)
				}
			} else if n != growth(time, drift) || e != api.OK {
				t.Errorf("%d with %d: %d %v", time, drift, n, e)
			}
		}
	}
}

// P9.1: lengths that divide without a remainder, and lengths that do not.
func TestLength(t *testing.T) {
	for _, x := range []struct{ slots, drift, want int }{
		{100, 100000, 1000102}, {0, 0, 1}, {1, 0, 10001}, {100, 0, 1000001}, {api.MaxRun, 0, 40960001},
		// without a remainder
		{2539, 24576, 25390625}, {3903, 32000, 39031250}, {3281, 76160, 32812500}, {2656, 94080, 26562500},
		{2539, 24575, 25390625}, {2539, 24577, 25390626}, {2538, 24576, 25380625}, {2540, 24576, 25400626},
		// with one
		{0, 1, 2}, {0, 100000, 2}, {1, 1, 10002}, {1, 100000, 10003}, {api.MaxRun, 100000, 40964098}, {api.MaxRun, 1, 40960002},
	} {
		if n, e := guard.Length(x.slots, x.drift); n != x.want || e != api.OK {
			t.Errorf("%v: %d %v", x, n, e)
		}
	}
}

// P9.1: steps are 1 more than the growth in the length.
func TestStep(t *testing.T) {
	for _, x := range []struct{ slots, drift, want int }{
		{100, 100000, 203}, {0, 0, 3}, {0, 100000, 3}, {api.MaxRun, 0, 3}, {api.MaxRun, 100000, 8195}, {1, 100000, 5}, {108, 100000, 219}, {548, 100000, 1099}, {549, 100000, 1101}, {26, 100000, 55}, {182, 100000, 367}, {1097, 50000, 1100},
	} {
		if n, e := guard.Step(x.slots, x.drift); n != x.want || e != api.OK {
			t.Errorf("%v: %d %v", x, n, e)
		}
	}
}

// P9.1: lengths and steps of all numbers of slots, with drifts at the ends and between, and P1: arguments out of their ranges.
func TestAllSlots(t *testing.T) {
	for _, drift := range append([]int{7, 999, 24576, 31415, 50000, 65536}, edges(api.MaxDrift)...) {
		var slots []int
		for n := range api.MaxRun + 1 {
			slots = append(slots, n)
		}
		for _, n := range append(slots, edges(api.MaxRun)...) {
			length, e := guard.Length(n, drift)
			step, f := guard.Step(n, drift)
			if !within(n, 0, api.MaxRun) || !within(drift, 0, api.MaxDrift) {
				if length != 0 || step != 0 || e != api.ErrRange || f != api.ErrRange {
					t.Errorf("%d with %d: %d %v, %d %v", n, drift, length, e, step, f)
				}
				continue
			}
			if !isLength(length, n, drift) || step != 1+growth(length, drift) || e != api.OK || f != api.OK {
				t.Errorf("%d with %d: %d %v, %d %v", n, drift, length, e, step, f)
			}
		}
	}
}

// P9.1: spreads, and P1: arguments out of their ranges.
func TestSpread(t *testing.T) {
	for _, x := range []struct{ a, b, slots, drift, want int }{
		{2, 3, 100, 100000, 1015}, {3, 2, 100, 100000, 1015}, {0, 5, 100, 100000, 1015}, {5, 0, 100, 100000, 1015}, {0, 0, 100, 100000, 0}, {0, 0, api.MaxRun, 100000, 0}, {1, 0, 0, 0, 3}, {32, 32, 0, 0, 192}, {32, 32, api.MaxRun, 100000, 524480}, {10, 10, 26, 100000, api.GuardTime}, {1, 0, 1097, 50000, api.GuardTime}, {0, 1, 549, 100000, api.GuardTime + 1}, {1, 2, 182, 100000, api.GuardTime + 1},
	} {
		if n, e := guard.Spread(x.a, x.b, x.slots, x.drift); n != x.want || e != api.OK {
			t.Errorf("%v: %d %v", x, n, e)
		}
	}
	for _, a := range edges(api.MaxNodes) {
		for _, b := range edges(api.MaxNodes) {
			for _, slots := range edges(api.MaxRun) {
				for _, drift := range edges(api.MaxDrift) {
					want, wantError := 0, api.ErrRange
					if within(a, 0, api.MaxNodes) && within(b, 0, api.MaxNodes) && within(slots, 0, api.MaxRun) && within(drift, 0, api.MaxDrift) {
						step, e := guard.Step(slots, drift)
						want, wantError = a*step+b*step, e
					}
					if n, e := guard.Spread(a, b, slots, drift); n != want || e != wantError {
						t.Fatalf("%d %d %d %d: %d %v", a, b, slots, drift, n, e)
					}
				}
			}
		}
	}
}

// P9.1: the slots between corrections, with a spread of exactly GuardTime, and with one more in the slot behind.
func TestSlots(t *testing.T) {
	for _, x := range []struct{ a, b, drift, want int }{
		{2, 3, 100000, 108}, {3, 2, 100000, 108}, {5, 0, 100000, 108}, {0, 0, 100000, api.MaxRun}, {0, 0, 0, api.MaxRun}, {1, 0, 0, api.MaxRun}, {32, 32, 0, api.MaxRun}, {1, 0, 100000, 548}, {0, 1, 100000, 548}, {32, 32, 100000, 7}, {10, 10, 100000, 26}, {1, 2, 100000, 181}, {32, 32, 1000, 749}, {5, 6, 100000, 48}, {10, 10, 77777, 34}, {1, 1, 1, api.MaxRun}, {1, 0, 13390, api.MaxRun}, {25, 25, 9000, 111},
	} {
		if n, e := guard.Slots(x.a, x.b, x.drift); n != x.want || e != api.OK {
			t.Errorf("%v: %d %v", x, n, e)
		}
	}
}

// P9.1: no more slots would be possible, for all depths; a spread of 0 slots is never too great.
func TestMostSlots(t *testing.T) {
	for _, drift := range []int{0, 1, 5000, 12345, 99999, 100000} {
		for a := range api.MaxNodes + 1 {
			for _, b := range []int{0, 1, 7, a, api.MaxNodes} {
				n, e := guard.Slots(a, b, drift)
				spread, f := guard.Spread(a, b, n, drift)
				if e != api.OK || f != api.OK || spread > api.GuardTime {
					t.Fatalf("%d %d %d: %d %v, spread %d", a, b, drift, n, e, spread)
				}
				if more, f := guard.Spread(a, b, n+1, drift); n < api.MaxRun && (f != api.OK || more <= api.GuardTime) {
					t.Fatalf("%d %d %d: %d, but one more would have the spread %d", a, b, drift, n, more)
				}
			}
		}
	}
	for _, drift := range []int{0, api.MaxDrift} {
		if n, e := guard.Spread(api.MaxNodes, api.MaxNodes, 0, drift); n > api.GuardTime || e != api.OK {
			t.Error(drift, n, e)
		}
	}
}

// P9.1, P1: depths and drifts out of their ranges.
func TestSlotsRanges(t *testing.T) {
	for _, a := range edges(api.MaxNodes) {
		for _, b := range edges(api.MaxNodes) {
			for _, drift := range edges(api.MaxDrift) {
				n, e := guard.Slots(a, b, drift)
				if in := within(a, 0, api.MaxNodes) && within(b, 0, api.MaxNodes) && within(drift, 0, api.MaxDrift); in != (e == api.OK) || !in && (n != 0 || e != api.ErrRange) {
					t.Errorf("%d %d %d: %d %v", a, b, drift, n, e)
				}
			}
		}
	}
}

// P9.2: ends of slots, up to MaxTime and one behind.
func TestEnd(t *testing.T) {
	rest := api.MaxTime - lastSlot*api.SlotTime
	for _, x := range []struct {
		c          api.Clock
		slot, want int
		e          api.Errno
	}{
		{cl(0, 0), 0, 8208, api.OK}, {cl(0, 0), 1, 18208, api.OK}, {cl(40, 0), 1, 18168, api.OK}, {cl(0, -100000), 0, 8209, api.OK}, {cl(5, -100000), 1, 12117 + onAir, api.OK}, {cl(2120, 0), 0, onAir, api.OK}, {cl(far, 0), 0, onAir, api.OK}, {cl(far, 0), lastSlot, onAir, api.OK},
		{cl(2120+onAir-rest, 0), lastSlot, api.MaxTime, api.OK}, {cl(2120+onAir-rest-1, 0), lastSlot, 0, api.ErrLate}, {cl(2120+onAir-rest+1, 0), lastSlot, api.MaxTime - 1, api.OK},
		{cl(2120+onAir-far, 0), 0, api.MaxTime, api.OK}, {cl(2119+onAir-far, 0), 0, 0, api.ErrLate}, {cl(2120-far, 0), 0, 0, api.ErrLate}, {cl(2119-far, 0), 0, 0, api.ErrLate}, {cl(-far, 0), 0, 0, api.ErrLate}, {cl(0, 0), lastSlot, 0, api.ErrLate},
		{cl(0, 0), -1, 0, api.ErrRange}, {cl(0, 0), lastSlot + 1, 0, api.ErrRange}, {cl(far, 0), lastSlot + 1, 0, api.ErrRange}, {cl(far+1, 0), 0, 0, api.ErrArg}, {cl(0, api.MaxDrift+1), -1, 0, api.ErrArg}, {cl(-far-1, 0), lastSlot + 1, 0, api.ErrArg},
	} {
		if n, e := guard.End(x.c, x.slot); n != x.want || e != x.e {
			t.Errorf("%v in %d: %d %v, want %d %v", x.c, x.slot, n, e, x.want, x.e)
		}
	}
}

// P9.2: frames that begin at the first and the last time of a window, one before, and one behind; windows that are over at the time 0 already.
func TestFits(t *testing.T) {
	for _, x := range []struct {
		sender, receiver api.Clock
		slot             int
		fits             bool
		late             int
	}{
		{cl(0, 0), cl(0, 0), 0, true, 0}, {cl(0, 0), cl(0, 0), 7, true, 0}, {cl(0, 0), cl(40, 0), 1, true, 40}, {cl(40, 0), cl(0, 0), 1, true, -40}, {cl(-50, 0), cl(40, 0), 1, true, 90},
		{cl(1100, 0), cl(0, 0), 1, true, -1100}, {cl(1101, 0), cl(0, 0), 1, false, -1101}, {cl(1099, 0), cl(0, 0), 1, true, -1099}, {cl(0, 0), cl(1100, 0), 1, true, 1100}, {cl(0, 0), cl(1101, 0), 1, false, 1101}, {cl(0, 0), cl(1099, 0), 1, true, 1099},
		{cl(-20000, 0), cl(0, 0), 1, false, 20000}, {cl(20000, 0), cl(0, 0), 3, false, -20000}, {cl(0, 0), cl(-9999, 0), 2, false, -9999},
		// drifts
		{cl(0, -100000), cl(0, 0), 1, true, 2}, {cl(0, 0), cl(0, -100000), 1, true, -2}, {cl(0, 100000), cl(0, -100000), 100, true, -201}, {cl(0, -100000), cl(0, 100000), 547, true, 1095}, {cl(0, 100000), cl(0, -100000), 549, true, -1099}, {cl(0, 100000), cl(0, -100000), 550, false, -1101},
		// a window that is over before the time 0, whoever sends, and one that lasts to the time 0
		{cl(3221, 0), cl(3221, 0), 0, false, 1101}, {cl(9000, 0), cl(9000, 0), 0, false, 6880}, {cl(3220, 0), cl(3220, 0), 0, true, 1100}, {cl(2120, 0), cl(3220, 0), 0, true, 1100}, {cl(2119, 0), cl(3220, 0), 0, false, 1101}, {cl(2120, 0), cl(3221, 0), 0, false, 1101}, {cl(far, 0), cl(far, 0), lastSlot, false, far - lastSlot*10000 - 2120}, {cl(far, 0), cl(0, 0), 0, false, -2120}, {cl(far, 0), cl(1020, 0), 0, true, -1100}, {cl(far, 0), cl(1019, 0), 0, false, -1101},
	} {
		ok, e := guard.Fits(x.sender, x.receiver, x.slot)
		if ok != x.fits || e != api.OK {
			t.Errorf("%v to %v in %d: %v %v", x.sender, x.receiver, x.slot, ok, e)
		}
		if n, e := guard.Late(x.sender, x.receiver, x.slot); n != x.late || e != api.OK {
			t.Errorf("%v to %v in %d: %d %v, want %d", x.sender, x.receiver, x.slot, n, e, x.late)
		}
	}
}

// P9.2: the sender's error comes first, then that of the receiver's window.
func TestErrors(t *testing.T) {
	fine, wrong, behind := cl(0, 0), cl(far+1, 0), cl(-far, 0)
	for _, x := range []struct {
		sender, receiver api.Clock
		slot             int
		e                api.Errno
	}{
		{fine, fine, lastSlot, api.OK}, {wrong, fine, 0, api.ErrArg}, {fine, wrong, 0, api.ErrArg}, {wrong, wrong, -1, api.ErrArg}, {wrong, behind, -1, api.ErrArg}, {cl(0, api.MaxDrift+1), fine, 0, api.ErrArg}, {fine, cl(0, -api.MaxDrift-1), 0, api.ErrArg},
		{fine, fine, -1, api.ErrRange}, {fine, wrong, -1, api.ErrRange}, {fine, wrong, lastSlot + 1, api.ErrRange}, {fine, fine, lastSlot + 1, api.ErrRange}, {fine, behind, lastSlot + 1, api.ErrRange},
		{behind, fine, 0, api.ErrLate}, {behind, wrong, 0, api.ErrLate}, {fine, behind, 0, api.ErrLate}, {behind, behind, 0, api.ErrLate},
		// the last frame can be sent, while its window is not over at MaxTime
		{cl(2120-far, 0), fine, 0, api.OK}, {cl(2119-far, 0), fine, 0, api.ErrLate}, {fine, cl(3221-far, 0), 0, api.OK}, {fine, cl(3220-far, 0), 0, api.ErrLate}, {cl(3220-far, 0), cl(3220-far, 0), 0, api.ErrLate}, {cl(2120-far, 0), wrong, 0, api.ErrArg},
	} {
		if ok, e := guard.Fits(x.sender, x.receiver, x.slot); ok && e != api.OK || e != x.e {
			t.Errorf("Fits %v to %v in %d: %v %v, want %v", x.sender, x.receiver, x.slot, ok, e, x.e)
		}
		if n, e := guard.Late(x.sender, x.receiver, x.slot); n != 0 && e != api.OK || e != x.e {
			t.Errorf("Late %v to %v in %d: %d %v, want %v", x.sender, x.receiver, x.slot, n, e, x.e)
		}
	}
}

// P9.2: random clocks against what the clocks say.
func TestRandomFrames(t *testing.T) {
	roll := random(1)
	fits := 0
	for range 20000 {
		a, b := cl(roll(6000)-3000, roll(200000)-100000), cl(roll(6000)-3000, roll(200000)-100000)
		slot := roll(20)
		at, e := clock.Send(a, slot)
		if end, f := guard.End(a, slot); end != at+onAir || e != api.OK || f != api.OK {
			t.Fatalf("%v in %d: %d %v", a, slot, end, f)
		}
		shown := show(b, at) - slot*10000 - 2120
		// What is shown never goes back: within the window is what shows no more and no less.
		want := within(shown, -1100, 1100)
		if ok, e := guard.Fits(a, b, slot); ok != want || e != api.OK {
			t.Fatalf("%v to %v in %d: %v %v", a, b, slot, ok, e)
		}
		if n, e := guard.Late(a, b, slot); n != shown || e != api.OK {
			t.Fatalf("%v to %v in %d: %d %v", a, b, slot, n, e)
		}
		if want {
			fits++
		}
	}
	if fits < 5000 || fits > 15000 {
		t.Error(fits)
	}
}

// near returns two clocks that differ by at most most at a time, with drifts within a bound.
func near(roll func(int) int, time, drift, most int) (api.Clock, api.Clock) {
	a, b := cl(0, roll(2*drift)-drift), cl(0, roll(2*drift)-drift)
	if roll(1) == 0 {
		// The greatest difference of drifts grows fastest.
		a.Drift, b.Drift = -drift, drift
	}
	b.Offset = show(a, time) - show(b, time) + roll(2*most) - most
	return a, b
}

// P9.3: clocks that differ by at most 1 differ by at most 1 and the growth later.
func TestGrowthBounds(t *testing.T) {
	roll := random(2)
	for range 20000 {
		time, drift := roll(api.MaxTime/1000), roll(api.MaxDrift)
		a, b := near(roll, time, drift, 1)
		d := roll(100000000)
		most, e := guard.Growth(d, drift)
		apart := show(a, time+d) - show(b, time+d)
		if e != api.OK || !within(apart, -1-most, 1+most) {
			t.Fatalf("%v and %v from %d to %d: %d", a, b, time, time+d, apart)
		}
	}
}

// P9.3: as long as a clock shows no more than K slots more, no more than the length of K slots passes.
func TestLengthBounds(t *testing.T) {
	roll := random(3)
	tight := 0
	for range 20000 {
		drift, slots := roll(api.MaxDrift), roll(api.MaxRun)
		if roll(1) == 0 {
			slots %= 5
		}
		c := cl(roll(100000)-50000, roll(2*drift)-drift)
		if roll(1) == 0 {
			c.Drift = -drift
		}
		time := roll(api.MaxTime / 1000)
		length, e := guard.Length(slots, drift)
		until, f := clock.Reach(c, show(c, time)+slots*10000)
		if e != api.OK || f != api.OK || until-time > length {
			t.Fatalf("%v: %d slots from %d to %d: %d, length %d", c, slots, time, until, until-time, length)
		}
		// The last time at which no more is shown.
		behind, f := clock.Reach(c, show(c, time)+slots*10000+1)
		if f != api.OK || behind-1-time > length {
			t.Fatalf("%v: %d slots from %d to %d: %d, length %d", c, slots, time, behind-1, behind-1-time, length)
		}
		// The length itself is never reached: it allows for rounding by 1, which is less.
		if behind-1-time == length-1 {
			tight++
		}
	}
	if tight == 0 {
		t.Error("no length was reached but for one microsecond")
	}
}

// P9.3: what two clocks that differ by at most GuardTime - 2 send fits; what is too late by more than GuardTime does not.
func TestGuardTime(t *testing.T) {
	roll := random(4)
	for range 20000 {
		slot := roll(100000)
		a := cl(roll(20000)-10000, roll(200000)-100000)
		at, e := clock.Send(a, slot+2)
		if e != api.OK {
			t.Fatal(e)
		}
		b := cl(0, roll(200000)-100000)
		apart := roll(2*(api.GuardTime+50)) - (api.GuardTime + 50)
		b.Offset = show(a, at) + apart - show(b, at)
		ok, e := guard.Fits(a, b, slot+2)
		late, f := guard.Late(a, b, slot+2)
		if e != api.OK || f != api.OK || !ok && within(apart, 2-api.GuardTime, api.GuardTime-2) || ok && late > api.GuardTime {
			t.Fatalf("%v to %v in %d: %d apart, %v, late %d", a, b, slot+2, apart, ok, late)
		}
	}
}

// P9.3, P3: slots do not overlap: a slot's end is before any frame of the next slot, if clocks differ by at most GuardTime then.
func TestSlotsApart(t *testing.T) {
	roll := random(5)
	for range 20000 {
		slot := 1 + roll(100000)
		next := cl(roll(20000)-10000, roll(200000)-100000)
		at, e := clock.Send(next, slot+1)
		if e != api.OK {
			t.Fatal(e)
		}
		c := cl(0, roll(200000)-100000)
		c.Offset = show(next, at) - show(c, at) + roll(2*api.GuardTime) - api.GuardTime
		if end, e := guard.End(c, slot); e != api.OK || end >= at {
			t.Fatalf("%v and %v in %d: the end %d %v, the next frame %d", c, next, slot, end, e, at)
		}
	}
}

// P3: clocks that are corrected within the slots between corrections send frames that fit, as far as their time parents differ by at most 1 when they are corrected.
func TestCorrectedInTime(t *testing.T) {
	roll := random(6)
	for range 5000 {
		drift := 1 + roll(api.MaxDrift-1)
		most, e := guard.Slots(1, 0, drift)
		if e != api.OK {
			t.Fatal(e)
		}
		slot := 1 + roll(1000)
		a := cl(roll(2000)-1000, roll(2*drift)-drift)
		at, e := clock.Send(a, slot)
		if e != api.OK {
			t.Fatal(e)
		}
		b := cl(0, roll(2*drift)-drift)
		b.Offset = show(a, at) - show(b, at) + roll(2) - 1
		for _, n := range []int{most, roll(most), 0} {
			ok, e := guard.Fits(a, b, slot+n)
			back, f := guard.Fits(b, a, slot+n)
			if e != api.OK || f != api.OK || !ok || n > 0 && !back {
				t.Fatalf("%v and %v, corrected in %d: %v %v in %d", a, b, slot, ok, back, slot+n)
			}
		}
	}
}

// P1: no call panics, whatever numbers there are, and with an error all else is zero.
func TestAllArguments(t *testing.T) {
	numbers := append([]int{-far - 1, -far, -100001, -100000, -1, 0, 1, 32, 33, 4096, 4097, 100000, 100001, lastSlot, lastSlot + 1, far, far + 1}, extremes...)
	for _, a := range numbers {
		for _, b := range numbers {
			for _, slot := range numbers {
				c := cl(a, b)
				end, e := guard.End(c, slot)
				if e != api.OK && end != 0 || e == api.OK && !within(end, onAir, api.MaxTime) {
					t.Errorf("%v in %d: %d %v", c, slot, end, e)
				}
				for _, d := range []api.Clock{cl(0, 0), cl(b, a), c} {
					ok, e := guard.Fits(c, d, slot)
					late, f := guard.Late(c, d, slot)
					if e != f || e != api.OK && (ok || late != 0) || e == api.OK && ok != within(late, -api.GuardTime, api.GuardTime) {
						t.Errorf("%v to %v in %d: %v %v, %d %v", c, d, slot, ok, e, late, f)
					}
				}
				slots, e := guard.Slots(a, b, slot)
				spread, f := guard.Spread(a, b, slot, 77)
				if e != api.OK && slots != 0 || f != api.OK && spread != 0 {
					t.Errorf("%d %d %d: %d %v, %d %v", a, b, slot, slots, e, spread, f)
				}
			}
		}
	}
}
