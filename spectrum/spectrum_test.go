package spectrum_test

import (
	"math"
	"reflect"
	"slices"
	"testing"

	"hopmesh/api"
	"hopmesh/geometry"
	"hopmesh/power"
	"hopmesh/spectrum"
)

const (
	most   = 10000      // the greatest coordinate
	period = 1000000000 // the greatest period
)

// extremes are numbers that nothing allows.
var extremes = []int{math.MinInt, math.MinInt + 1, -1 << 41, -1000, -2, 1 << 41, math.MaxInt - 1, math.MaxInt}

// xy returns a point.
func xy(x, y int) api.Point { return api.Point{X: x, Y: y} }

// room returns a site with three nodes in a row.
func room() api.Site {
	return api.Site{Nodes: []api.Point{xy(0, 0), xy(30, 0), xy(90, 0)}, Powers: []int{90000, 90000, 90000}, Exponent: 2, Noise: 10, Threshold: 2000}
}

// source returns an external transmitter on some channels.
func source(length, from, to int, channels ...int) api.Source {
	return api.Source{At: xy(30, 30), Power: 9000, Channels: channels, Period: length, From: from, To: to}
}

// fade returns a fading of all transmissions.
func fade(first, until, factor int) api.Fade {
	return api.Fade{From: -1, To: -1, Channel: -1, First: first, Until: until, Factor: factor}
}

// chosen returns a fading of some transmissions, whenever they begin.
func chosen(from, to, channel, factor int) api.Fade {
	return api.Fade{From: from, To: to, Channel: channel, First: 0, Until: api.MaxTime, Factor: factor}
}

// sources returns a spectrum with external transmitters alone.
func sources(l ...api.Source) api.Spectrum { return api.Spectrum{Sources: l} }

// fades returns a spectrum with fadings alone.
func fades(l ...api.Fade) api.Spectrum { return api.Spectrum{Fades: l} }

// changed returns an external transmitter after a change.
func changed(change func(s *api.Source)) api.Source {
	s := source(100, 20, 30, 1, 5)
	change(&s)
	return s
}

// all returns the channels.
func all() []int {
	var l []int
	for c := range 16 {
		l = append(l, c)
	}
	return l
}

// random returns a function that gives numbers from 0 to most, which follow from a seed.
func random(seed uint64) func(most int) int {
	return func(most int) int {
		seed = seed*6364136223846793005 + 1442695040888963407
		return int(seed>>16) % (most + 1)
	}
}

// randomSource returns an external transmitter with a short period.
func randomSource(roll func(int) int) api.Source {
	length := 1 + roll(30)
	from := roll(length)
	s := api.Source{At: xy(roll(100), roll(100)), Power: roll(1 << 20), Period: length, From: from, To: from + roll(length-from)}
	for c := range 16 {
		if roll(3) == 0 {
			s.Channels = append(s.Channels, c)
		}
	}
	return s
}

// randomFade returns a fading of few nodes and times.
func randomFade(roll func(int) int) api.Fade {
	first := roll(20)
	return api.Fade{From: roll(3) - 1, To: roll(3) - 1, Channel: roll(3) - 1, First: first, Until: first + roll(10), Factor: roll(1000)}
}

// randomSpectrum returns a spectrum with some of both.
func randomSpectrum(roll func(int) int) api.Spectrum {
	var x api.Spectrum
	for range roll(4) {
		x.Sources = append(x.Sources, randomSource(roll))
	}
	for range roll(6) {
		x.Fades = append(x.Fades, randomFade(roll))
	}
	return x
}

// on decides time by time whether an external transmitter is on in an interval.
func on(s api.Source, from, to int) bool {
	for t := from; t < to; t++ {
		if s.From <= t%s.Period && t%s.Period < s.To {
			return true
		}
	}
	return false
}

// factor looks for the fadings that apply.
func factor(x api.Spectrum, a, b, channel, t int) int {
	n := 1000
	for _, f := range x.Fades {
		if (f.From < 0 || f.From == a) && (f.To < 0 || f.To == b) && (f.Channel < 0 || f.Channel == channel) && f.First <= t && f.Until > t && f.Factor < n {
			n = f.Factor
		}
	}
	return n
}

// valid returns external transmitters that are valid, each at an end of what is allowed.
func valid() []api.Source {
	return []api.Source{
		source(100, 20, 30, 1, 5), source(100, 0, 100), source(100, 0, 0, 0), source(100, 100, 100, 15), source(100, 50, 50, 0, 15), source(1, 0, 0), source(1, 0, 1), source(1, 1, 1),
		source(period, 0, period), source(period, period, period), source(period, period-1, period, all()...),
		changed(func(s *api.Source) { s.At = xy(0, most) }), changed(func(s *api.Source) { s.At = xy(most, 0) }),
		changed(func(s *api.Source) { s.Power = 0 }), changed(func(s *api.Source) { s.Power = api.MaxPower }),
	}
}

// wrong returns external transmitters that each have one fault.
func wrong() []api.Source {
	l := []api.Source{
		{}, source(100, 31, 30), source(100, 1, 0), source(100, -1, 30), source(100, -1, -1), source(100, -2, -1), source(100, 20, 101), source(100, 101, 101), source(100, 100, 101), source(100, 200, 100), source(100, 0, -1),
		source(0, 0, 0), source(-1, 0, 0), source(-1, -2, -1), source(period+1, 0, 1), source(period+1, 0, period+1), source(1, 0, 2),
		source(100, 20, 30, -1), source(100, 20, 30, 16), source(100, 20, 30, 0, 16), source(100, 20, 30, -1, 0), source(100, 20, 30, 1, 1), source(100, 20, 30, 2, 1), source(100, 20, 30, 0, 2, 2), source(100, 20, 30, 0, 2, 1), source(100, 20, 30, 3, 4, 3, 5), source(100, 20, 30, append(all(), 16)...), source(100, 20, 30, append(all(), 15)...), source(100, 20, 30, append([]int{-1}, all()...)...),
	}
	for _, n := range append([]int{-1, most + 1}, extremes...) {
		l = append(l, changed(func(s *api.Source) { s.At.X = n }), changed(func(s *api.Source) { s.At.Y = n }))
	}
	for _, n := range append([]int{-1, api.MaxPower + 1}, extremes...) {
		l = append(l, changed(func(s *api.Source) { s.Power = n }))
	}
	for _, n := range extremes {
		l = append(l, source(n, 20, 30), source(100, n, 30), source(100, 20, n), source(100, 20, 30, n), source(n, n, n))
	}
	return l
}

// validFades returns fadings that are valid, each at an end of what is allowed.
func validFades() []api.Fade {
	return []api.Fade{
		fade(0, 0, 0), fade(0, api.MaxTime, 1000), fade(7, 7, 1), fade(api.MaxTime, api.MaxTime, 999), fade(0, 1, 500),
		chosen(0, 0, 0, 5), chosen(31, 31, 15, 5), chosen(-1, 31, 0, 5), chosen(31, -1, -1, 5), chosen(4, 4, -1, 5), chosen(-1, -1, 15, 5),
	}
}

// wrongFades returns fadings that each have one fault.
func wrongFades() []api.Fade {
	l := []api.Fade{
		fade(-1, 0, 5), fade(-1, -1, 5), fade(1, 0, 5), fade(0, api.MaxTime+1, 5), fade(api.MaxTime+1, api.MaxTime+1, 5), fade(api.MaxTime, api.MaxTime-1, 5), fade(0, 1, -1), fade(0, 1, 1001),
		chosen(-2, 0, 0, 5), chosen(32, 0, 0, 5), chosen(0, -2, 0, 5), chosen(0, 32, 0, 5), chosen(0, 0, -2, 5), chosen(0, 0, 16, 5),
	}
	for _, n := range extremes {
		l = append(l, fade(n, 9, 5), fade(0, n, 5), fade(n, n, 5), fade(0, 9, n), chosen(n, 0, 0, 5), chosen(0, n, 0, 5), chosen(0, 0, n, 5))
	}
	return l
}

// repeated returns a list with n equal elements.
func repeated[T any](n int, v T) []T {
	l := make([]T, n)
	for i := range l {
		l[i] = v
	}
	return l
}

// wrongSpectra returns spectra that each have one fault.
func wrongSpectra() []api.Spectrum {
	l := []api.Spectrum{
		{Sources: repeated(17, source(100, 20, 30))}, {Fades: repeated(65, fade(0, 1, 5))}, {Sources: repeated(1000, source(100, 20, 30))}, {Fades: repeated(1000, fade(0, 1, 5))},
		{Sources: repeated(17, source(100, 20, 30)), Fades: repeated(64, fade(0, 1, 5))}, {Sources: repeated(16, source(100, 20, 30)), Fades: repeated(65, fade(0, 1, 5))},
	}
	for _, s := range wrong() {
		l = append(l, sources(s), sources(source(100, 20, 30), s), sources(s, source(100, 20, 30)))
	}
	for _, f := range wrongFades() {
		l = append(l, fades(f), fades(fade(0, 1, 5), f), fades(f, fade(0, 1, 5)))
	}
	return l
}

// P6.1: which spectra are valid.
func TestCheckValid(t *testing.T) {
	l := []api.Spectrum{
		{}, {Sources: repeated(16, source(100, 20, 30)), Fades: repeated(64, fade(0, 1, 5))}, {Sources: repeated(15, source(100, 20, 30)), Fades: repeated(63, fade(0, 1, 5))},
		{Sources: valid(), Fades: validFades()},
	}
	for _, s := range valid() {
		l = append(l, sources(s))
	}
	for _, f := range validFades() {
		l = append(l, fades(f))
	}
	for i, x := range l {
		if e := spectrum.Check(x); e != api.OK {
			t.Errorf("%d: %v", i, e)
		}
	}
}

// P6.1 to P6.4: a spectrum with any fault is not valid, which is named before all other errors.
func TestWrongSpectra(t *testing.T) {
	for i, x := range wrongSpectra() {
		if e := spectrum.Check(x); e != api.ErrArg {
			t.Errorf("%d: Check: %v", i, e)
		}
		for _, n := range []int{0, -1, 40} {
			if k, e := spectrum.Factor(x, n, n, n, n); k != 0 || e != api.ErrArg {
				t.Errorf("%d: Factor: %d %v", i, k, e)
			}
			if k, e := spectrum.Signal(room(), x, n, n, n, n); k != 0 || e != api.ErrArg {
				t.Errorf("%d: Signal: %d %v", i, k, e)
			}
			if k, e := spectrum.External(room(), x, n, n, n, n+1); k != 0 || e != api.ErrArg {
				t.Errorf("%d: External: %d %v", i, k, e)
			}
			if k, e := spectrum.Worst(room(), x, n, n); k != 0 || e != api.ErrArg {
				t.Errorf("%d: Worst: %d %v", i, k, e)
			}
		}
		if l := spectrum.Clear(x, 0, 1); len(l) != 0 {
			t.Errorf("%d: Clear: %v", i, l)
		}
	}
}

// P6.2 to P6.4: a site with a fault is not valid, also where there is a node or a channel too little.
func TestWrongSites(t *testing.T) {
	wrongPower := room()
	wrongPower.Powers[2] = -1
	wrongWall := room()
	wrongWall.Walls = make([]api.Wall, 33)
	for i, s := range []api.Site{{}, wrongPower, wrongWall} {
		for _, n := range []int{0, -1, 40} {
			for _, x := range []api.Spectrum{{}, fades(fade(1, 0, 0))} {
				if k, e := spectrum.Signal(s, x, n, n, n, n); k != 0 || e != api.ErrArg {
					t.Errorf("%d: Signal: %d %v", i, k, e)
				}
				if k, e := spectrum.External(s, x, n, n, n, n); k != 0 || e != api.ErrArg {
					t.Errorf("%d: External: %d %v", i, k, e)
				}
				if k, e := spectrum.Worst(s, x, n, n); k != 0 || e != api.ErrArg {
					t.Errorf("%d: Worst: %d %v", i, k, e)
				}
			}
		}
	}
}

// P6.1: in which intervals a transmitter is on.
func TestOn(t *testing.T) {
	for _, x := range []struct {
		s        api.Source
		from, to int
		want     bool
	}{
		{source(100, 20, 30, 3), 95, 121, true}, {source(100, 20, 30, 3), 30, 120, false}, {source(100, 20, 30), 95, 121, true},
		// intervals that begin or end at a border
		{source(100, 20, 30), 0, 20, false}, {source(100, 20, 30), 0, 21, true}, {source(100, 20, 30), 20, 21, true}, {source(100, 20, 30), 29, 30, true}, {source(100, 20, 30), 29, 1000, true}, {source(100, 20, 30), 30, 31, false}, {source(100, 20, 30), 19, 20, false}, {source(100, 20, 30), 22, 25, true}, {source(100, 20, 30), 10, 40, true},
		{source(100, 20, 30), 130, 220, false}, {source(100, 20, 30), 130, 221, true}, {source(100, 20, 30), 129, 130, true}, {source(100, 20, 30), 100, 120, false}, {source(100, 20, 30), 30, 121, true}, {source(100, 20, 30), 99, 121, true},
		// empty intervals
		{source(100, 20, 30), 25, 25, false}, {source(100, 20, 30), 20, 20, false}, {source(100, 0, 100), 0, 0, false}, {source(100, 0, 100), api.MaxTime, api.MaxTime, false}, {source(100, 20, 30), 125, 125, false},
		// longer than a period
		{source(100, 20, 30), 30, 130, true}, {source(100, 20, 30), 31, 300, true}, {source(100, 20, 20), 0, 100000, false}, {source(100, 99, 100), 0, 99, false}, {source(100, 99, 100), 0, 100, true}, {source(100, 99, 100), 100, 199, false}, {source(100, 99, 100), 100, 200, true}, {source(100, 0, 1), 1, 100, false}, {source(100, 0, 1), 1, 101, true},
		// never on, or always
		{source(100, 0, 0), 0, api.MaxTime, false}, {source(100, 100, 100), 0, api.MaxTime, false}, {source(100, 100, 100), 99, 102, false}, {source(100, 50, 50), 0, api.MaxTime, false}, {source(100, 0, 100), 0, 1, true}, {source(100, 0, 100), 99, 100, true}, {source(100, 0, 100), 100, 101, true}, {source(1, 0, 1), 7, 8, true}, {source(1, 0, 0), 7, 8, false}, {source(1, 1, 1), 7, 8, false},
		// the last times
		{source(100, 20, 30), api.MaxTime - 1, api.MaxTime, false}, {source(100, 75, 76), api.MaxTime - 1, api.MaxTime, true}, {source(100, 76, 77), api.MaxTime - 1, api.MaxTime, false}, {source(100, 20, 30), 0, api.MaxTime, true}, {source(period, period-1, period), 0, period - 1, false}, {source(period, period-1, period), period - 1, period, true}, {source(period, period-1, period), period, api.MaxTime, true}, {source(period, 0, 1), period, period + 1, true},
		// no intervals
		{source(100, 0, 100), 1, 0, false}, {source(100, 0, 100), -1, 0, false}, {source(100, 0, 100), -1, 1, false}, {source(100, 0, 100), 0, api.MaxTime + 1, false}, {source(100, 0, 100), api.MaxTime, api.MaxTime + 1, false}, {source(100, 0, 100), api.MaxTime + 1, api.MaxTime + 2, false}, {source(100, 0, 100), 0, -1, false}, {source(100, 0, 100), math.MinInt, math.MaxInt, false}, {source(100, 0, 100), math.MaxInt - 1, math.MaxInt, false}, {source(100, 0, 100), -5, -4, false},
	} {
		if got := spectrum.On(x.s, x.from, x.to); got != x.want {
			t.Errorf("%v from %d to %d: %v", x.s, x.from, x.to, got)
		}
	}
	for i, s := range wrong() {
		if spectrum.On(s, 0, api.MaxTime) || spectrum.On(s, 20, 30) {
			t.Errorf("%d: %v is on", i, s)
		}
	}
}

// P6.1, P6.5: all short periods and intervals; who is on in an interval is on in one of two parts of it.
func TestOnSmall(t *testing.T) {
	const side = 7
	for length := 1; length <= side; length++ {
		for from := range length + 1 {
			for to := from; to <= length; to++ {
				s := source(length, from, to)
				for first := range 2*side + 2 {
					for last := first; last <= 3*side; last++ {
						got := spectrum.On(s, first, last)
						if got != on(s, first, last) {
							t.Fatalf("%v from %d to %d: %v", s, first, last, got)
						}
						for middle := first; middle <= last; middle++ {
							if got != (spectrum.On(s, first, middle) || spectrum.On(s, middle, last)) {
								t.Fatalf("%v from %d over %d to %d: %v", s, first, middle, last, got)
							}
						}
					}
				}
			}
		}
	}
}

// P6.1: for how many thousandths of its period a transmitter is on.
func TestDuty(t *testing.T) {
	for _, x := range []struct {
		s    api.Source
		want int
	}{
		{source(100, 20, 30), 100}, {source(100, 0, 100), 1000}, {source(100, 0, 0), 0}, {source(100, 100, 100), 0}, {source(3, 0, 1), 333}, {source(3, 0, 2), 666}, {source(3, 1, 2), 333}, {source(1001, 0, 1), 0}, {source(1000, 999, 1000), 1}, {source(1001, 0, 1000), 999},
		{source(1, 0, 1), 1000}, {source(period, 0, period), 1000}, {source(period, 0, period-1), 999}, {source(period, 0, 999999), 0}, {source(period, 1, 1000001), 1}, {source(7, 2, 7, 0, 1, 2), 714},
	} {
		if n := spectrum.Duty(x.s); n != x.want {
			t.Errorf("%v: %d", x.s, n)
		}
	}
	for i, s := range wrong() {
		if n := spectrum.Duty(s); n != 0 {
			t.Errorf("%d: %v: %d", i, s, n)
		}
	}
}

// P6.2: factors of transmissions.
func TestFactor(t *testing.T) {
	two := fades(fade(0, 50, 500), api.Fade{From: 1, To: -1, Channel: -1, First: 10, Until: 20, Factor: 200})
	for _, x := range []struct {
		x                   api.Spectrum
		a, b, channel, time int
		want                int
	}{
		{two, 1, 0, 0, 5, 500}, {two, 1, 0, 0, 10, 200}, {two, 1, 0, 0, 19, 200}, {two, 1, 0, 0, 20, 500}, {two, 1, 0, 0, 49, 500}, {two, 1, 0, 0, 50, 1000}, {two, 0, 1, 0, 15, 500}, {two, 2, 0, 15, 9, 500}, {two, 1, 1, 7, 15, 200},
		{api.Spectrum{}, 0, 0, 0, 0, 1000}, {api.Spectrum{}, 31, 31, 15, api.MaxTime, 1000}, {sources(source(100, 0, 100, 3)), 0, 1, 3, 0, 1000},
		// the least one of several, wherever it stands
		{fades(fade(0, 9, 300), fade(0, 9, 200), fade(0, 9, 700)), 0, 1, 0, 0, 200}, {fades(fade(0, 9, 200), fade(0, 9, 300)), 0, 1, 0, 0, 200}, {fades(fade(0, 9, 300), fade(0, 9, 0)), 0, 1, 0, 0, 0}, {fades(fade(0, 9, 1000)), 0, 1, 0, 0, 1000},
		// no times, and the last ones
		{fades(fade(5, 5, 0)), 0, 1, 0, 5, 1000}, {fades(fade(0, 0, 0)), 0, 1, 0, 0, 1000}, {fades(fade(0, 1, 0)), 0, 1, 0, 0, 0}, {fades(fade(0, 1, 0)), 0, 1, 0, 1, 1000}, {fades(fade(0, api.MaxTime, 3)), 0, 1, 0, api.MaxTime - 1, 3}, {fades(fade(0, api.MaxTime, 3)), 0, 1, 0, api.MaxTime, 1000}, {fades(fade(api.MaxTime, api.MaxTime, 3)), 0, 1, 0, api.MaxTime, 1000}, {fades(fade(api.MaxTime-1, api.MaxTime, 3)), 0, 1, 0, api.MaxTime - 2, 1000},
		// who sends, who hears, and where
		{fades(chosen(4, -1, -1, 5)), 4, 0, 0, 0, 5}, {fades(chosen(4, -1, -1, 5)), 0, 4, 0, 0, 1000}, {fades(chosen(-1, 4, -1, 5)), 0, 4, 0, 0, 5}, {fades(chosen(-1, 4, -1, 5)), 4, 0, 0, 0, 1000}, {fades(chosen(-1, -1, 4, 5)), 0, 1, 4, 0, 5}, {fades(chosen(-1, -1, 4, 5)), 4, 4, 0, 4, 1000},
		{fades(chosen(0, -1, -1, 5)), 0, 1, 1, 0, 5}, {fades(chosen(0, -1, -1, 5)), 1, 0, 0, 0, 1000}, {fades(chosen(-1, 0, -1, 5)), 1, 0, 1, 0, 5}, {fades(chosen(-1, 0, -1, 5)), 0, 1, 0, 0, 1000}, {fades(chosen(-1, -1, 0, 5)), 1, 1, 0, 1, 5}, {fades(chosen(-1, -1, 0, 5)), 0, 0, 1, 0, 1000},
		{fades(chosen(3, 4, 5, 6)), 3, 4, 5, 0, 6}, {fades(chosen(3, 4, 5, 6)), 4, 4, 5, 0, 1000}, {fades(chosen(3, 4, 5, 6)), 3, 3, 5, 0, 1000}, {fades(chosen(3, 4, 5, 6)), 3, 4, 4, 0, 1000}, {fades(chosen(3, 4, 5, 6)), 4, 3, 5, 0, 1000}, {fades(chosen(31, 31, 15, 0)), 31, 31, 15, 7, 0},
	} {
		if n, e := spectrum.Factor(x.x, x.a, x.b, x.channel, x.time); n != x.want || e != api.OK {
			t.Errorf("%v: %d %v", x, n, e)
		}
	}
}

// P6.2: numbers that are no nodes, channels or times, in each place.
func TestFactorRange(t *testing.T) {
	x := fades(fade(0, 50, 500))
	for i, wrong := range [][]int{append([]int{-1, 32}, extremes...), append([]int{-1, 32}, extremes...), append([]int{-1, 16}, extremes...), append([]int{-1, api.MaxTime + 1}, extremes...)} {
		for _, n := range wrong {
			l := []int{0, 0, 0, 0}
			l[i] = n
			if k, e := spectrum.Factor(x, l[0], l[1], l[2], l[3]); k != 0 || e != api.ErrRange {
				t.Errorf("%v: %d %v", l, k, e)
			}
		}
	}
}

// P6.2: signals are powers between nodes, scaled by the factor.
func TestSignal(t *testing.T) {
	x := fades(fade(0, 50, 500), api.Fade{From: 1, To: -1, Channel: 3, First: 10, Until: 20, Factor: 333})
	for _, y := range [][5]int{
		{0, 1, 0, 5, 5000}, {0, 1, 15, 50, 10000}, {0, 1, 0, api.MaxTime, 10000}, {1, 0, 3, 10, 3330}, {1, 2, 3, 19, 832}, {1, 2, 3, 20, 1250}, {1, 2, 4, 15, 1250}, {2, 1, 3, 15, 1250}, {1, 2, 3, 60, 2500}, {0, 2, 0, 0, 555}, {0, 0, 0, 0, 0}, {1, 1, 3, 100, 0},
	} {
		if n, e := spectrum.Signal(room(), x, y[0], y[1], y[2], y[3]); n != y[4] || e != api.OK {
			t.Errorf("%v: %d %v", y, n, e)
		}
	}
}

// P6.2 to P6.4: nodes that the site does not have come before channels and times out of range.
func TestNodesAndRanges(t *testing.T) {
	x := sources(source(100, 20, 30, 1))
	for _, n := range append([]int{-1, 3, 4, 31, 32}, extremes...) {
		for _, l := range [][2]int{{n, 0}, {0, n}, {n, n}} {
			for _, m := range []int{0, -1, math.MaxInt} {
				if k, e := spectrum.Signal(room(), x, l[0], l[1], m, m); k != 0 || e != api.ErrNotFound {
					t.Errorf("Signal of %v: %d %v", l, k, e)
				}
				if k, e := spectrum.External(room(), x, n, m, m, -m); k != 0 || e != api.ErrNotFound {
					t.Errorf("External at %d: %d %v", n, k, e)
				}
			}
			if k, e := spectrum.Worst(room(), x, l[0], l[1]); k != 0 || e != api.ErrNotFound {
				t.Errorf("Worst of %v: %d %v", l, k, e)
			}
		}
	}
	for _, channel := range append([]int{-1, 16}, extremes...) {
		if k, e := spectrum.Signal(room(), x, 0, 1, channel, 0); k != 0 || e != api.ErrRange {
			t.Errorf("Signal on %d: %d %v", channel, k, e)
		}
		if k, e := spectrum.External(room(), x, 0, channel, 0, 1); k != 0 || e != api.ErrRange {
			t.Errorf("External on %d: %d %v", channel, k, e)
		}
	}
	for _, time := range append([]int{-1, api.MaxTime + 1}, extremes...) {
		if k, e := spectrum.Signal(room(), x, 0, 1, 0, time); k != 0 || e != api.ErrRange {
			t.Errorf("Signal at %d: %d %v", time, k, e)
		}
	}
	for _, l := range [][2]int{{1, 0}, {-1, 0}, {-1, 5}, {-2, -1}, {0, -1}, {0, api.MaxTime + 1}, {api.MaxTime, api.MaxTime + 1}, {api.MaxTime + 1, api.MaxTime + 1}, {api.MaxTime + 1, 5}, {api.MaxTime, api.MaxTime - 1}, {math.MinInt, math.MaxInt}, {math.MaxInt, math.MinInt}} {
		if k, e := spectrum.External(room(), x, 0, 1, l[0], l[1]); k != 0 || e != api.ErrRange {
			t.Errorf("External in %v: %d %v", l, k, e)
		}
		if c := spectrum.Clear(x, l[0], l[1]); len(c) != 0 {
			t.Errorf("Clear in %v: %v", l, c)
		}
	}
}

// P6.3: external powers at nodes, on channels with several transmitters, and behind walls.
func TestExternal(t *testing.T) {
	near := source(100, 20, 30, 1, 5) // 1000 at node 1, 500 at node 0
	far := api.Source{At: xy(90, 0), Power: 800, Channels: []int{5}, Period: 7, From: 0, To: 7}
	walled := room()
	walled.Walls = []api.Wall{{A: xy(20, 10), B: xy(40, 10), Factor: 100}}
	for i, x := range []struct {
		s                       api.Site
		l                       []api.Source
		node, channel, from, to int
		want                    int
	}{
		{room(), nil, 0, 0, 0, api.MaxTime, 0}, {room(), []api.Source{near}, 1, 1, 20, 21, 1000}, {room(), []api.Source{near}, 1, 5, 0, 100, 1000}, {room(), []api.Source{near}, 0, 5, 95, 121, 500}, {room(), []api.Source{near}, 1, 2, 20, 21, 0}, {room(), []api.Source{near}, 1, 0, 20, 21, 0}, {room(), []api.Source{near}, 1, 5, 30, 120, 0}, {room(), []api.Source{near}, 1, 5, 25, 25, 0}, {room(), []api.Source{near}, 2, 5, 0, api.MaxTime, 200},
		{room(), []api.Source{near, near, near}, 1, 1, 0, 200, 3000}, {room(), []api.Source{near, far}, 2, 5, 20, 21, 1000}, {room(), []api.Source{near, far}, 2, 5, 30, 31, 800}, {room(), []api.Source{far, near}, 2, 5, 30, 31, 800}, {room(), []api.Source{near, far}, 2, 1, 20, 21, 200}, {room(), []api.Source{near, far}, 2, 5, 0, 0, 0},
		{walled, []api.Source{near}, 1, 1, 20, 21, 100}, {walled, []api.Source{near}, 2, 1, 20, 21, 200}, {walled, []api.Source{near, far}, 1, 5, 20, 21, 122},
		{room(), []api.Source{{At: xy(0, 0), Power: 7, Channels: all(), Period: 1, From: 0, To: 1}}, 0, 15, 0, 1, 7}, {room(), []api.Source{{At: xy(0, 0), Power: 7, Period: 1, From: 0, To: 1}}, 0, 15, 0, 1, 0},
		{room(), repeated(16, api.Source{At: xy(1, 1), Power: api.MaxPower, Channels: all(), Period: 1, From: 0, To: 1}), 0, 0, 0, 1, 16 * api.MaxPower},
	} {
		// Fadings are not for external transmitters.
		y := api.Spectrum{Sources: x.l, Fades: []api.Fade{fade(0, api.MaxTime, 0)}}
		if n, e := spectrum.External(x.s, y, x.node, x.channel, x.from, x.to); n != x.want || e != api.OK {
			t.Errorf("%d: %d %v, want %d", i, n, e, x.want)
		}
	}
}

// P6.3: which channels are clear.
func TestClear(t *testing.T) {
	x := sources(source(100, 20, 30, 1, 5), source(100, 25, 40, 0, 5, 15), source(100, 50, 50, 7), source(100, 60, 61))
	other := func(used ...int) []int {
		return slices.DeleteFunc(all(), func(c int) bool { return slices.Contains(used, c) })
	}
	for _, y := range []struct {
		from, to int
		want     []int
	}{
		{0, 20, all()}, {0, 21, other(1, 5)}, {25, 26, other(0, 1, 5, 15)}, {30, 31, other(0, 5, 15)}, {40, 120, all()}, {40, 121, other(1, 5)}, {0, api.MaxTime, other(0, 1, 5, 15)}, {25, 25, all()}, {0, 0, all()}, {api.MaxTime, api.MaxTime, all()},
	} {
		if l := spectrum.Clear(x, y.from, y.to); !slices.Equal(l, y.want) {
			t.Errorf("from %d to %d: %v", y.from, y.to, l)
		}
	}
	if l := spectrum.Clear(sources(source(1, 0, 1, all()...)), 0, 1); len(l) != 0 {
		t.Error(l)
	}
	// A transmitter without power is on all the same.
	silent := changed(func(s *api.Source) { s.Power = 0 })
	if l := spectrum.Clear(sources(silent), 20, 21); !slices.Equal(l, other(1, 5)) {
		t.Error(l)
	}
	if l := spectrum.Clear(fades(fade(0, 9, 0)), 0, 9); !slices.Equal(l, all()) {
		t.Error(l)
	}
}

// P6.4: the least signal of all channels and times.
func TestWorst(t *testing.T) {
	for i, x := range []struct {
		l    []api.Fade
		a, b int
		want int
	}{
		{nil, 0, 1, 10000}, {nil, 1, 2, 2500}, {nil, 1, 1, 0}, {[]api.Fade{fade(0, 50, 500)}, 0, 1, 5000}, {[]api.Fade{fade(5, 5, 0)}, 0, 1, 10000}, {[]api.Fade{fade(5, 6, 0)}, 0, 1, 0}, {[]api.Fade{fade(api.MaxTime, api.MaxTime, 0)}, 0, 1, 10000}, {[]api.Fade{fade(api.MaxTime-1, api.MaxTime, 9)}, 0, 1, 90}, {[]api.Fade{fade(0, 0, 0)}, 0, 1, 10000},
		{[]api.Fade{fade(0, 50, 500), fade(60, 61, 333)}, 1, 2, 832}, {[]api.Fade{fade(60, 61, 333), fade(0, 50, 500)}, 1, 2, 832},
		{[]api.Fade{chosen(0, -1, -1, 5)}, 0, 1, 50}, {[]api.Fade{chosen(0, -1, -1, 5)}, 1, 0, 10000}, {[]api.Fade{chosen(-1, 0, -1, 5)}, 1, 0, 50}, {[]api.Fade{chosen(-1, 0, -1, 5)}, 0, 1, 10000}, {[]api.Fade{chosen(-1, -1, 15, 5)}, 0, 1, 50}, {[]api.Fade{chosen(-1, -1, 0, 5)}, 0, 1, 50}, {[]api.Fade{chosen(0, 1, 7, 5)}, 0, 1, 50}, {[]api.Fade{chosen(0, 1, 7, 5)}, 0, 2, 1111}, {[]api.Fade{chosen(0, 1, 7, 5)}, 1, 0, 10000},
	} {
		if n, e := spectrum.Worst(room(), fades(x.l...), x.a, x.b); n != x.want || e != api.OK {
			t.Errorf("%d: %d %v, want %d", i, n, e, x.want)
		}
	}
}

// P6.2 to P6.4: random spectra against what follows directly from the definitions.
func TestRandomSpectra(t *testing.T) {
	roll, s := random(1), room()
	for range 300 {
		x := randomSpectrum(roll)
		if e := spectrum.Check(x); e != api.OK {
			t.Fatal(x, e)
		}
		for n := range 27 {
			a, b, channel := n%3, n/3%3, roll(4)
			p, _ := geometry.Between(s, a, b)
			worst := p
			for time := range 40 {
				for c := range 4 {
					want := factor(x, a, b, c, time)
					if k, e := spectrum.Factor(x, a, b, c, time); k != want || e != api.OK {
						t.Fatalf("%v: factor from %d to %d on %d at %d: %d %v", x, a, b, c, time, k, e)
					}
					scaled, _ := power.Scale(p, want)
					if k, e := spectrum.Signal(s, x, a, b, c, time); k != scaled || e != api.OK {
						t.Fatalf("%v: signal from %d to %d on %d at %d: %d %v", x, a, b, c, time, k, e)
					}
					worst = min(worst, scaled)
				}
			}
			if k, e := spectrum.Worst(s, x, a, b); k != worst || e != api.OK {
				t.Fatalf("%v: worst from %d to %d: %d %v, want %d", x, a, b, k, e, worst)
			}
			from := roll(60)
			to := from + roll(30)
			sum := 0
			for _, y := range x.Sources {
				if slices.Contains(y.Channels, channel) && on(y, from, to) {
					q, _ := geometry.At(s, y.At, y.Power, s.Nodes[a])
					sum += q
				}
			}
			if k, e := spectrum.External(s, x, a, channel, from, to); k != sum || e != api.OK {
				t.Fatalf("%v: external at %d on %d from %d to %d: %d %v, want %d", x, a, channel, from, to, k, e, sum)
			}
		}
	}
}

// P6.5: no less external power in a longer interval, and none on a clear channel.
func TestExternalGrows(t *testing.T) {
	roll, s := random(2), room()
	for range 1000 {
		x := randomSpectrum(roll)
		from := 20 + roll(50)
		to := from + roll(40)
		clear := spectrum.Clear(x, from, to)
		if !slices.IsSorted(clear) {
			t.Fatal(clear)
		}
		for channel := range 16 {
			n, e := spectrum.External(s, x, 1, channel, from, to)
			longer, f := spectrum.External(s, x, 1, channel, from-roll(20), to+roll(20))
			isClear := !slices.ContainsFunc(x.Sources, func(y api.Source) bool { return slices.Contains(y.Channels, channel) && on(y, from, to) })
			if e != api.OK || f != api.OK || longer < n || isClear && n != 0 || isClear != slices.Contains(clear, channel) {
				t.Fatalf("%v from %d to %d: %d on %d, longer %d, clear %v", x, from, to, n, channel, longer, clear)
			}
		}
	}
}

// P6.5: a further fading never strengthens a signal.
func TestFurtherFades(t *testing.T) {
	roll, s := random(3), room()
	for range 1000 {
		x := randomSpectrum(roll)
		more := x
		more.Fades = slices.Insert(slices.Clone(x.Fades), roll(len(x.Fades)), randomFade(roll))
		for range 50 {
			a, b, channel, time := roll(2), roll(2), roll(3), roll(30)
			before, e := spectrum.Signal(s, x, a, b, channel, time)
			after, f := spectrum.Signal(s, more, a, b, channel, time)
			worst, g := spectrum.Worst(s, more, a, b)
			if e != api.OK || f != api.OK || g != api.OK || after > before || worst > after {
				t.Fatalf("%v: %d, with a further fading %d, at worst %d", more, before, after, worst)
			}
		}
	}
}

// P1: no call panics, whatever numbers there are.
func TestAllArguments(t *testing.T) {
	numbers := append([]int{-1, 0, 1, 2, 15, 16, 31, 32, 100, period, period + 1, api.MaxTime - 1, api.MaxTime, api.MaxTime + 1}, extremes...)
	x := api.Spectrum{Sources: []api.Source{source(100, 20, 30, 1)}, Fades: []api.Fade{fade(0, 50, 500)}}
	for _, a := range numbers {
		for _, b := range numbers {
			for _, c := range numbers {
				y := api.Spectrum{Sources: []api.Source{source(a, b, c, a)}, Fades: []api.Fade{{From: a, To: b, Channel: c, First: a, Until: b, Factor: c}}}
				spectrum.Check(y)
				spectrum.On(y.Sources[0], b, c)
				spectrum.Duty(y.Sources[0])
				spectrum.Clear(y, b, c)
				spectrum.On(x.Sources[0], b, c)
				k, e := spectrum.Factor(x, a, a, b, c)
				if fits := a >= 0 && a < 32 && b >= 0 && b < 16 && c >= 0 && c <= api.MaxTime; fits != (e == api.OK) || !fits && (k != 0 || e != api.ErrRange) {
					t.Errorf("Factor of %d on %d at %d: %d %v", a, b, c, k, e)
				}
				k, e = spectrum.External(room(), x, 0, a, b, c)
				if fits := a >= 0 && a < 16 && b >= 0 && b <= c && c <= api.MaxTime; fits != (e == api.OK) || !fits && (k != 0 || e != api.ErrRange) {
					t.Errorf("External on %d from %d to %d: %d %v", a, b, c, k, e)
				}
			}
		}
	}
}

// P1, P6.1: arguments are not changed, and lists without elements are like no lists.
func TestArgumentsStay(t *testing.T) {
	build := func() api.Spectrum {
		return api.Spectrum{Sources: []api.Source{source(100, 20, 30, 1, 5), source(100, 0, 0, 2)}, Fades: []api.Fade{fade(0, 50, 500), fade(1, 2, 3)}}
	}
	x, s := build(), room()
	spectrum.Check(x)
	spectrum.Factor(x, 0, 1, 1, 1)
	spectrum.Signal(s, x, 0, 1, 1, 1)
	spectrum.External(s, x, 0, 1, 0, 100)
	spectrum.Worst(s, x, 0, 1)
	l := spectrum.Clear(x, 0, 100)
	if !reflect.DeepEqual(x, build()) || !reflect.DeepEqual(s, room()) {
		t.Error(x, s)
	}
	l[0] = 99
	if again := spectrum.Clear(x, 0, 100); again[0] != 0 {
		t.Error(again)
	}
	empty := api.Spectrum{Sources: []api.Source{}, Fades: []api.Fade{}}
	if n, e := spectrum.Factor(empty, 0, 1, 1, 1); n != 1000 || e != api.OK || !slices.Equal(spectrum.Clear(empty, 0, 1), all()) {
		t.Error(n, e)
	}
}
