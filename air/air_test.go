package air_test

import (
	"math"
	"reflect"
	"slices"
	"testing"

	"hopmesh/air"
	"hopmesh/api"
	"hopmesh/spectrum"
)

// extremes are numbers that nothing allows.
var extremes = []int{math.MinInt, math.MinInt + 1, -1 << 41, -1000, -2, 1 << 41, math.MaxInt - 1, math.MaxInt}

// row returns the site of the example: three nodes in a row. Node 0 has 10000 units at node 1 and 1111 at node 2, node 1 has 2500 at node 2.
func row() api.Site {
	return api.Site{Nodes: []api.Point{{X: 0, Y: 0}, {X: 30, Y: 0}, {X: 90, Y: 0}}, Powers: []int{90000, 90000, 90000}, Exponent: 2, Noise: 10, Threshold: 2000}
}

// heap returns a site with all nodes at one point, so that all powers arrive whole. The signal 100 has the margin 40.
func heap(powers ...int) api.Site {
	return api.Site{Nodes: make([]api.Point, len(powers)), Powers: powers, Exponent: 2, Noise: 10, Threshold: 2000}
}

// em returns an emission.
func em(node, channel, from, to int) api.Emission {
	return api.Emission{Node: node, Channel: channel, From: from, To: to}
}

// list returns emissions.
func list(l ...api.Emission) []api.Emission { return l }

// source returns an external transmitter at the point of a heap, on channel 3 alone.
func source(power, period, from, to int) api.Source {
	return api.Source{Power: power, Channels: []int{3}, Period: period, From: from, To: to}
}

// sources returns a spectrum with external transmitters alone.
func sources(l ...api.Source) api.Spectrum { return api.Spectrum{Sources: l} }

// fades returns a spectrum with fadings alone.
func fades(l ...api.Fade) api.Spectrum { return api.Spectrum{Fades: l} }

// fade returns a fading of what a node emits.
func fade(node, first, until, factor int) api.Fade {
	return api.Fade{From: node, To: -1, Channel: -1, First: first, Until: until, Factor: factor}
}

// chain returns n emissions of a node, each of which ends when the next one begins.
func chain(n, node int) []api.Emission {
	var l []api.Emission
	for i := range n {
		l = append(l, em(node, 3, i, i+1))
	}
	return l
}

// random returns a function that gives numbers from 0 to most, which follow from a seed.
func random(seed uint64) func(most int) int {
	return func(most int) int {
		seed = seed*6364136223846793005 + 1442695040888963407
		return int(seed>>16) % (most + 1)
	}
}

// scene is what there is on the air.
type scene struct {
	s api.Site
	x api.Spectrum
	l []api.Emission
}

// randomScene returns a scene with times up to 16, in which some nodes are received and some are not.
func randomScene(roll func(int) int) scene {
	var c scene
	c.s = api.Site{Exponent: 2, Noise: 1 + roll(10), Threshold: 1000 + roll(1000)}
	for range 2 + roll(4) {
		c.s.Nodes = append(c.s.Nodes, api.Point{X: roll(30), Y: roll(30)})
		c.s.Powers = append(c.s.Powers, 1<<roll(12))
	}
	for range roll(2) {
		from := roll(8)
		c.x.Sources = append(c.x.Sources, api.Source{At: api.Point{X: roll(30)}, Power: roll(100), Channels: []int{roll(1)}, Period: 8, From: from, To: from + roll(8-from)})
	}
	for range roll(3) {
		first := roll(10)
		c.x.Fades = append(c.x.Fades, api.Fade{From: roll(3) - 1, To: roll(3) - 1, Channel: roll(2) - 1, First: first, Until: first + roll(8), Factor: roll(1000)})
	}
	for range roll(12) {
		from := roll(14)
		c.l = addFree(c.l, em(roll(len(c.s.Nodes)-1), roll(1), from, from+1+roll(4)))
	}
	return c
}

// addFree appends an emission, if its node does not emit then already.
func addFree(l []api.Emission, next api.Emission) []api.Emission {
	for _, e := range l {
		if e.Node == next.Node && meet(e, next) {
			return l
		}
	}
	return append(slices.Clone(l), next)
}

// meet looks for a time that two emissions with small times have in common.
func meet(a, b api.Emission) bool {
	for t := -20; t < 40; t++ {
		if a.From <= t && t < a.To && b.From <= t && t < b.To {
			return true
		}
	}
	return false
}

// parts returns the external power and that of other nodes with an emission, and which emissions these are.
func (c scene) parts(i, node int) (int, int, []int) {
	e := c.l[i]
	external, _ := spectrum.External(c.s, c.x, node, e.Channel, e.From, e.To)
	others := 0
	var from []int
	for j, o := range c.l {
		if j != i && o.Channel == e.Channel && o.Node != node && meet(o, e) {
			n, _ := spectrum.Signal(c.s, c.x, o.Node, node, o.Channel, o.From)
			others += n
			from = append(from, j)
		}
	}
	return external, others, from
}

// receives decides by the definition with which interference an emission is received.
func (c scene) receives(i, node, interference int) bool {
	e := c.l[i]
	for _, o := range c.l {
		if o.Node == node && meet(o, e) {
			return false
		}
	}
	signal, _ := spectrum.Signal(c.s, c.x, e.Node, node, e.Channel, e.From)
	return 1000*signal >= c.s.Threshold*(c.s.Noise+interference)
}

// received reports what Received does.
func (c scene) received(t *testing.T, i, node int) bool {
	t.Helper()
	is, e := air.Received(c.s, c.x, c.l, i, node)
	if e != api.OK {
		t.Fatalf("%v: emission %d at node %d: %v", c, i, node, e)
	}
	return is
}

// heard returns what Hear does, and -1 if there is nothing.
func (c scene) heard(t *testing.T, node, channel, from, to int) int {
	t.Helper()
	i, found, e := air.Hear(c.s, c.x, c.l, api.Listening{Node: node, Channel: channel, From: from, To: to})
	if e != api.OK || !found && i != 0 {
		t.Fatalf("%v: node %d on %d from %d to %d: %d %v %v", c, node, channel, from, to, i, found, e)
	}
	if !found {
		return -1
	}
	return i
}

// P7.1: which lists of emissions are valid.
func TestCheckValid(t *testing.T) {
	for i, l := range [][]api.Emission{
		nil, {}, chain(1, 0), chain(47, 2), chain(48, 0),
		{em(0, 0, 0, 1)}, {em(2, 15, 0, api.MaxTime)}, {em(1, 7, api.MaxTime-1, api.MaxTime)},
		// others at the same time, on one channel and on several
		{em(0, 3, 0, 9), em(1, 3, 0, 9), em(2, 3, 0, 9)}, {em(0, 3, 0, 9), em(1, 4, 5, 9), em(2, 5, 8, 20)},
		// one node, with emissions that end when another one begins
		{em(0, 3, 0, 9), em(0, 3, 9, 10)}, {em(0, 3, 9, 10), em(0, 3, 0, 9)}, {em(0, 3, 0, 9), em(0, 4, 20, 30), em(0, 5, 9, 20)}, {em(1, 3, 0, 9), em(0, 3, 0, 9), em(1, 3, 9, api.MaxTime)},
	} {
		if e := air.Check(row(), api.Spectrum{}, l); e != api.OK {
			t.Errorf("%d: %v", i, e)
		}
	}
}

// P7.1: which lists are not valid, and what is named first.
func TestCheckErrors(t *testing.T) {
	good := em(1, 3, 0, 9)
	for i, x := range []struct {
		l    []api.Emission
		want api.Errno
	}{
		{chain(49, 0), api.ErrTooLarge}, {chain(1000, 0), api.ErrTooLarge}, {slices.Insert(chain(48, 0), 0, em(-1, -1, 1, 0)), api.ErrTooLarge}, {append(chain(48, 0), em(0, 3, 0, 1)), api.ErrTooLarge},
		{list(em(3, 3, 0, 9)), api.ErrNotFound}, {list(em(-1, 3, 0, 9)), api.ErrNotFound}, {list(em(31, 3, 0, 9)), api.ErrNotFound}, {list(good, em(3, 3, 0, 9)), api.ErrNotFound}, {append(chain(47, 0), em(3, 3, 0, 9)), api.ErrNotFound},
		{list(em(0, -1, 0, 9)), api.ErrRange}, {list(em(0, 16, 0, 9)), api.ErrRange},
		{list(em(0, 3, 5, 5)), api.ErrRange}, {list(em(0, 3, 0, 0)), api.ErrRange}, {list(em(0, 3, api.MaxTime, api.MaxTime)), api.ErrRange}, {list(em(0, 3, 6, 5)), api.ErrRange}, {list(em(0, 3, api.MaxTime, 0)), api.ErrRange}, {list(em(0, 3, 1, 0)), api.ErrRange},
		{list(em(0, 3, -1, 0)), api.ErrRange}, {list(em(0, 3, -1, 9)), api.ErrRange}, {list(em(0, 3, -2, -1)), api.ErrRange}, {list(em(0, 3, 0, -1)), api.ErrRange}, {list(em(0, 3, 0, api.MaxTime+1)), api.ErrRange}, {list(em(0, 3, api.MaxTime, api.MaxTime+1)), api.ErrRange}, {list(em(0, 3, api.MaxTime+1, api.MaxTime+2)), api.ErrRange}, {list(em(0, 3, api.MaxTime+1, 9)), api.ErrRange},
		// one node emits twice at once, on whatever channel, and whatever stands between
		{list(good, good), api.ErrConflict}, {list(good, em(1, 4, 0, 9)), api.ErrConflict}, {list(good, em(1, 3, 8, 20)), api.ErrConflict}, {list(good, em(0, 3, 8, 20), em(1, 4, 8, 20)), api.ErrConflict}, {list(em(1, 3, 8, 20), good), api.ErrConflict}, {list(good, em(1, 3, 4, 5)), api.ErrConflict}, {list(em(1, 3, 4, 5), good), api.ErrConflict}, {list(good, em(1, 3, 9, 12), em(1, 3, 11, 13)), api.ErrConflict}, {append(chain(47, 1), em(1, 3, 46, 47)), api.ErrConflict}, {append(chain(47, 1), em(1, 3, 0, 1)), api.ErrConflict},
		// an emission with several errors
		{list(em(3, 16, 0, 9)), api.ErrNotFound}, {list(em(-1, 3, 9, 0)), api.ErrNotFound}, {list(good, em(1, 16, 0, 9)), api.ErrRange}, {list(good, em(1, 3, 0, api.MaxTime+1)), api.ErrRange}, {list(good, em(1, 3, -1, 9)), api.ErrRange},
		// the first emission with an error decides
		{list(em(0, 16, 0, 9), em(3, 3, 0, 9)), api.ErrRange}, {list(em(3, 3, 0, 9), em(0, 16, 0, 9)), api.ErrNotFound}, {list(good, good, em(3, 3, 0, 9)), api.ErrConflict}, {list(good, em(0, 3, 1, 1), good), api.ErrRange}, {list(em(0, 3, 1, 1), good, good), api.ErrRange},
	} {
		if e := air.Check(row(), api.Spectrum{}, x.l); e != x.want {
			t.Errorf("%d: %v, want %v", i, e, x.want)
		}
	}
	for _, n := range extremes {
		for _, x := range []struct {
			e    api.Emission
			want api.Errno
		}{{em(n, 3, 0, 9), api.ErrNotFound}, {em(n, n, n, n), api.ErrNotFound}, {em(0, n, 0, 9), api.ErrRange}, {em(0, 3, n, 9), api.ErrRange}, {em(0, 3, 0, n), api.ErrRange}, {em(0, 3, n, n), api.ErrRange}} {
			if e := air.Check(row(), api.Spectrum{}, list(good, x.e)); e != x.want {
				t.Errorf("%v: %v, want %v", x.e, e, x.want)
			}
		}
	}
}

// wantError checks that all functions have an error, and nothing else.
func wantError(t *testing.T, s api.Site, x api.Spectrum, l []api.Emission, i, node int, want api.Errno) {
	t.Helper()
	if n, e := air.Interference(s, x, l, i, node); n != 0 || e != want {
		t.Errorf("Interference of %d at %d: %d %v, want %v", i, node, n, e, want)
	}
	if is, e := air.Received(s, x, l, i, node); is || e != want {
		t.Errorf("Received of %d at %d: %v %v, want %v", i, node, is, e, want)
	}
	if k, e := air.Disturbers(s, x, l, i, node); len(k) != 0 || e != want {
		t.Errorf("Disturbers of %d at %d: %v %v, want %v", i, node, k, e, want)
	}
}

// wantCheckError checks that all functions have an error of Check, whatever the other arguments are.
func wantCheckError(t *testing.T, s api.Site, x api.Spectrum, l []api.Emission, want api.Errno) {
	t.Helper()
	if e := air.Check(s, x, l); e != want {
		t.Errorf("Check: %v, want %v", e, want)
	}
	for _, n := range []int{0, -1, 40} {
		wantError(t, s, x, l, n, n, want)
		if k, e := air.Receivers(s, x, l, n); len(k) != 0 || e != want {
			t.Errorf("Receivers of %d: %v %v, want %v", n, k, e, want)
		}
		if i, found, e := air.Hear(s, x, l, api.Listening{Node: n, Channel: n, From: n, To: n}); i != 0 || found || e != want {
			t.Errorf("Hear at %d: %d %v %v, want %v", n, i, found, e, want)
		}
	}
}

// P7.1 to P7.4: the site and the spectrum come first, then the number of emissions, then each of them.
func TestArgumentErrors(t *testing.T) {
	wrongPower, wrongWall := row(), row()
	wrongPower.Powers[2] = -1
	wrongWall.Walls = make([]api.Wall, 33)
	wrongSources, wrongFades := sources(source(1, 0, 0, 0)), fades(fade(32, 0, 1, 0))
	for _, l := range [][]api.Emission{nil, chain(1, 0), chain(49, 0), {em(9, 3, 0, 9)}} {
		for _, s := range []api.Site{{}, wrongPower, wrongWall} {
			wantCheckError(t, s, api.Spectrum{}, l, api.ErrArg)
		}
		for _, x := range []api.Spectrum{wrongSources, wrongFades} {
			wantCheckError(t, row(), x, l, api.ErrArg)
		}
		wantCheckError(t, wrongPower, wrongFades, l, api.ErrArg)
	}
	wantCheckError(t, row(), api.Spectrum{}, chain(49, 0), api.ErrTooLarge)
	wantCheckError(t, row(), api.Spectrum{}, list(em(0, 3, 0, 9), em(3, 3, 0, 9)), api.ErrNotFound)
	wantCheckError(t, row(), api.Spectrum{}, list(em(0, 3, 0, 9), em(1, 3, 9, 9)), api.ErrRange)
	wantCheckError(t, row(), api.Spectrum{}, list(em(0, 3, 0, 9), em(0, 3, 8, 9)), api.ErrConflict)
}

// P7.2, P7.4: emissions and nodes that are not there.
func TestNotFound(t *testing.T) {
	s, x, l := row(), api.Spectrum{}, list(em(0, 3, 0, 9), em(2, 3, 0, 9))
	for _, n := range append([]int{-1, 3, 31, 32}, extremes...) {
		wantError(t, s, x, l, 0, n, api.ErrNotFound)
		wantError(t, s, x, l, n, 0, api.ErrNotFound)
		wantError(t, s, x, l, n, n, api.ErrNotFound)
		wantError(t, s, x, nil, n, 0, api.ErrNotFound)
		if k, e := air.Receivers(s, x, l, n); len(k) != 0 || e != api.ErrNotFound {
			t.Errorf("Receivers of %d: %v %v", n, k, e)
		}
		for _, m := range []int{0, -1, math.MaxInt} {
			if i, found, e := air.Hear(s, x, l, api.Listening{Node: n, Channel: m, From: m, To: -m}); i != 0 || found || e != api.ErrNotFound {
				t.Errorf("Hear at %d: %d %v %v", n, i, found, e)
			}
		}
	}
	wantError(t, s, x, l, 2, 0, api.ErrNotFound)
	wantError(t, s, x, nil, 0, 0, api.ErrNotFound)
	for _, i := range []int{0, 2} {
		if k, e := air.Receivers(s, x, l[:i], i); len(k) != 0 || e != api.ErrNotFound {
			t.Errorf("Receivers of %d of %d: %v %v", i, i, k, e)
		}
	}
}

// P7.3: channels and times at which nobody can listen, and those at which one just can.
func TestHearRange(t *testing.T) {
	l := list(em(0, 3, 0, 9))
	wrong := [][3]int{{-1, 0, 0}, {16, 0, 0}, {3, 1, 0}, {3, -1, 0}, {3, -1, 9}, {3, -1, -1}, {3, 0, -1}, {3, 0, api.MaxTime + 1}, {3, api.MaxTime, api.MaxTime + 1}, {3, api.MaxTime + 1, api.MaxTime + 1}, {3, api.MaxTime + 1, 0}, {3, api.MaxTime, api.MaxTime - 1}}
	for _, n := range extremes {
		wrong = append(wrong, [3]int{n, 0, 0}, [3]int{3, n, 9}, [3]int{3, 0, n}, [3]int{3, n, n}, [3]int{n, n, n})
	}
	for _, x := range wrong {
		if i, found, e := air.Hear(row(), api.Spectrum{}, l, api.Listening{Node: 1, Channel: x[0], From: x[1], To: x[2]}); i != 0 || found || e != api.ErrRange {
			t.Errorf("on %d from %d to %d: %d %v %v", x[0], x[1], x[2], i, found, e)
		}
	}
	for _, x := range [][3]int{{0, 0, 0}, {15, 0, api.MaxTime}, {3, api.MaxTime, api.MaxTime}, {4, 7, 8}} {
		if i, found, e := air.Hear(row(), api.Spectrum{}, l, api.Listening{Node: 1, Channel: x[0], From: x[1], To: x[2]}); i != 0 || found || e != api.OK {
			t.Errorf("on %d from %d to %d: %d %v %v", x[0], x[1], x[2], i, found, e)
		}
	}
}

// P7.1: emissions that overlap, with any numbers.
func TestOverlap(t *testing.T) {
	for _, x := range []struct {
		a, b, c, d int
		want       bool
	}{
		{0, 9, 0, 9, true}, {0, 9, 8, 12, true}, {0, 9, 9, 12, false}, {0, 9, 10, 12, false}, {0, 9, 3, 4, true}, {0, 1, 0, 1, true}, {0, 1, 1, 2, false}, {0, api.MaxTime, api.MaxTime - 1, api.MaxTime, true},
		// empty and turned round
		{5, 5, 0, 9, false}, {5, 5, 5, 5, false}, {0, 9, 5, 5, false}, {6, 5, 0, 9, false}, {9, 0, 0, 9, false}, {9, 0, 9, 0, false}, {9, 0, 3, 4, false}, {0, 9, 0, 0, false}, {0, 9, 9, 9, false},
		// far out
		{-9, -3, -4, 7, true}, {-9, -3, -3, 7, false}, {-9, -3, -5, -4, true}, {math.MinInt, math.MaxInt, 0, 1, true}, {math.MinInt, math.MaxInt, math.MaxInt - 1, math.MaxInt, true}, {math.MinInt, math.MinInt + 1, math.MinInt, math.MaxInt, true}, {math.MinInt, 0, 0, math.MaxInt, false}, {math.MaxInt, math.MinInt, math.MinInt, math.MaxInt, false}, {math.MaxInt, math.MaxInt, math.MinInt, math.MaxInt, false}, {math.MinInt, math.MinInt, math.MinInt, math.MaxInt, false}, {math.MaxInt - 1, math.MaxInt, math.MinInt, math.MinInt + 1, false},
	} {
		// Neither nodes nor channels matter.
		a, b := em(math.MinInt, 99, x.a, x.b), em(math.MaxInt, -99, x.c, x.d)
		if air.Overlap(a, b) != x.want || air.Overlap(b, a) != x.want {
			t.Errorf("%d to %d and %d to %d: not %v", x.a, x.b, x.c, x.d, x.want)
		}
	}
}

// P7.1: all small intervals against a search for a common time.
func TestOverlapSmall(t *testing.T) {
	const side = 7
	for n := range side * side * side * side {
		a, b := em(0, 3, n%side-3, n/side%side-3), em(0, 3, n/side/side%side-3, n/side/side/side-3)
		if air.Overlap(a, b) != meet(a, b) {
			t.Fatalf("%v and %v: %v", a, b, air.Overlap(a, b))
		}
	}
}

// P7.2: the example: the nearer one of two nodes that send at once is received.
func TestExample(t *testing.T) {
	c := scene{row(), api.Spectrum{}, list(em(0, 3, 0, 9), em(2, 3, 0, 9))}
	for node, want := range [][2]int{{1111, 0}, {2500, 10000}, {0, 1111}} {
		for i, power := range want {
			if n, e := air.Interference(c.s, c.x, c.l, i, node); n != power || e != api.OK {
				t.Errorf("interference with %d at %d: %d %v, want %d", i, node, n, e, power)
			}
			if is := c.received(t, i, node); is != (node == 1 && i == 0) {
				t.Errorf("%d at %d: %v", i, node, is)
			}
		}
	}
	for i, want := range [][]int{{1}, nil} {
		if k, e := air.Receivers(c.s, c.x, c.l, i); !slices.Equal(k, want) || e != api.OK {
			t.Errorf("receivers of %d: %v %v", i, k, e)
		}
	}
	for i, want := range [][]int{nil, {0}} {
		if k, e := air.Disturbers(c.s, c.x, c.l, i, 1); !slices.Equal(k, want) || e != api.OK {
			t.Errorf("disturbers of %d: %v %v", i, k, e)
		}
	}
	if i := c.heard(t, 1, 3, 0, 5); i != 0 {
		t.Error(i)
	}
}

// P7.2: what counts in the interference.
func TestInterference(t *testing.T) {
	s := heap(1, 20, 300, 4000)
	long := em(0, 3, 10, 20)
	wide := sources(source(50000, 100, 15, 16))
	var external api.Spectrum
	for range 16 {
		external.Sources = append(external.Sources, source(api.MaxPower, 1, 0, 1))
	}
	for i, x := range []struct {
		s    api.Site
		x    api.Spectrum
		l    []api.Emission
		node int
		want int
	}{
		{s, api.Spectrum{}, list(long), 3, 0}, {s, api.Spectrum{}, list(long, em(1, 3, 10, 20)), 3, 20}, {s, api.Spectrum{}, list(long, em(1, 3, 10, 20), em(2, 3, 19, 30)), 3, 320}, {s, api.Spectrum{}, list(long, em(2, 3, 0, 11), em(1, 3, 0, 100)), 3, 320}, {s, api.Spectrum{}, list(long, em(1, 3, 14, 15), em(1, 3, 15, 16), em(1, 3, 16, 17)), 3, 60},
		// on another channel, before and behind
		{s, api.Spectrum{}, list(long, em(1, 4, 10, 20), em(2, 2, 10, 20)), 3, 0}, {s, api.Spectrum{}, list(long, em(1, 3, 20, 30), em(2, 3, 0, 10)), 3, 0}, {s, api.Spectrum{}, list(long, em(1, 3, 21, 30), em(2, 3, 0, 9)), 3, 0}, {s, api.Spectrum{}, list(long, em(1, 3, 20, 30), em(2, 3, 0, 11)), 3, 300},
		// at the node that emits something else, and at its own one
		{s, api.Spectrum{}, list(long, em(1, 3, 10, 20), em(2, 3, 10, 20)), 1, 300}, {s, api.Spectrum{}, list(long, em(1, 3, 10, 20), em(2, 3, 10, 20)), 0, 320}, {s, wide, list(long, em(1, 3, 10, 20)), 0, 50020}, {s, api.Spectrum{}, list(long, em(0, 3, 20, 30)), 0, 0},
		// external transmitters in the interval of the emission alone
		{s, wide, list(long), 3, 50000}, {s, wide, list(long, em(1, 3, 10, 20)), 3, 50020}, {s, wide, list(em(0, 3, 15, 16)), 3, 50000}, {s, wide, list(em(0, 3, 0, 15), em(1, 3, 0, 20)), 3, 20}, {s, wide, list(em(0, 3, 16, 115), em(1, 3, 0, 20)), 3, 20}, {s, wide, list(em(0, 3, 16, 116)), 3, 50000}, {s, wide, list(em(0, 4, 10, 20)), 3, 0},
		// fadings at the time at which the other one begins
		{s, fades(fade(1, 5, 6, 500)), list(long, em(1, 3, 5, 20)), 3, 10}, {s, fades(fade(1, 5, 6, 500)), list(long, em(1, 3, 6, 20)), 3, 20}, {s, fades(fade(1, 5, 6, 500)), list(long, em(1, 3, 4, 20)), 3, 20}, {s, fades(fade(1, 10, 11, 500)), list(long, em(1, 3, 5, 20)), 3, 20}, {s, fades(fade(1, 10, 11, 500)), list(long, em(1, 3, 10, 20)), 3, 10}, {s, fades(fade(0, 0, 100, 0)), list(long, em(1, 3, 10, 20)), 3, 20},
		{s, fades(api.Fade{From: -1, To: 3, Channel: 3, Until: 99, Factor: 100}), list(long, em(1, 3, 10, 20)), 3, 2}, {s, fades(api.Fade{From: -1, To: 3, Channel: 3, Until: 99, Factor: 100}), list(long, em(1, 3, 10, 20)), 2, 20}, {s, fades(api.Fade{From: -1, To: -1, Channel: 4, Until: 99, Factor: 100}), list(long, em(1, 3, 10, 20)), 3, 20},
		// as much as there can be
		{heap(1, api.MaxPower, 1), external, slices.Insert(chain(47, 1), 0, em(0, 3, 0, 47)), 2, 63 * api.MaxPower},
	} {
		if n, e := air.Interference(x.s, x.x, x.l, 0, x.node); n != x.want || e != api.OK {
			t.Errorf("%d: %d %v, want %d", i, n, e, x.want)
		}
		// The place in the list does not matter.
		last := append(slices.Clone(x.l[1:]), x.l[0])
		if n, e := air.Interference(x.s, x.x, last, len(last)-1, x.node); n != x.want || e != api.OK {
			t.Errorf("%d, at the end: %d %v, want %d", i, n, e, x.want)
		}
	}
}

// P7.2, P2: signals that are just received, and just not.
func TestReceived(t *testing.T) {
	long := em(0, 3, 10, 20)
	both := list(long, em(1, 3, 10, 20))
	three := list(long, em(1, 3, 19, 30), em(2, 3, 5, 11))
	blind := heap(100, 40, 20, 1)
	blind.Threshold = 1001
	var external api.Spectrum
	for range 16 {
		external.Sources = append(external.Sources, source(api.MaxPower/20, 1, 0, 1))
	}
	strong := heap(api.MaxPower, 0, 0, 0)
	strong.Threshold = 1000
	for i, x := range []struct {
		s    api.Site
		x    api.Spectrum
		l    []api.Emission
		node int
		want bool
	}{
		// without anything in the way
		{heap(20, 0, 0, 0), api.Spectrum{}, list(long), 3, true}, {heap(19, 0, 0, 0), api.Spectrum{}, list(long), 3, false}, {heap(0, 0, 0, 0), api.Spectrum{}, list(long), 3, false},
		// with one and with several emissions
		{heap(100, 40, 0, 0), api.Spectrum{}, both, 3, true}, {heap(100, 41, 0, 0), api.Spectrum{}, both, 3, false}, {heap(99, 40, 0, 0), api.Spectrum{}, both, 3, false}, {heap(100, 20, 20, 0), api.Spectrum{}, three, 3, true}, {heap(100, 20, 21, 0), api.Spectrum{}, three, 3, false}, {heap(100, 21, 20, 0), api.Spectrum{}, three, 3, false}, {heap(100, 40, 1, 0), api.Spectrum{}, three, 3, false}, {heap(100, 40, 0, 0), api.Spectrum{}, three, 3, true},
		{heap(100, 5, 0, 0), api.Spectrum{}, append(list(em(0, 3, 0, 8)), chain(8, 1)...), 3, true}, {heap(100, 5, 0, 0), api.Spectrum{}, append(list(em(0, 3, 0, 9)), chain(9, 1)...), 3, false},
		{heap(100, 99999, 99999, 0), api.Spectrum{}, list(long, em(1, 3, 20, 30), em(2, 3, 0, 10)), 3, true}, {heap(100, 99999, 99999, 0), api.Spectrum{}, list(long, em(1, 4, 10, 20), em(2, 2, 10, 20)), 3, true}, {heap(100, 99999, 99999, 0), api.Spectrum{}, list(long, em(1, 4, 10, 20), em(2, 3, 19, 20)), 3, false},
		{blind, api.Spectrum{}, both, 3, true}, {heap(api.MaxPower, 0, 0, 0), api.Spectrum{}, both, 3, true},
		// at its own node, and at one that emits itself
		{heap(100, 0, 0, 0), api.Spectrum{}, list(long), 0, false}, {heap(100, 0, 0, 0), api.Spectrum{}, list(long, em(1, 9, 10, 20)), 1, false}, {heap(100, 0, 0, 0), api.Spectrum{}, list(long, em(1, 3, 10, 20)), 1, false}, {heap(100, 0, 0, 0), api.Spectrum{}, list(long, em(1, 9, 19, 30)), 1, false}, {heap(100, 0, 0, 0), api.Spectrum{}, list(long, em(1, 9, 0, 11)), 1, false}, {heap(100, 0, 0, 0), api.Spectrum{}, list(long, em(1, 9, 0, 10), em(1, 3, 20, 30)), 1, true}, {heap(100, 0, 0, 0), api.Spectrum{}, list(long, em(1, 9, 0, 10), em(1, 3, 19, 30)), 1, false}, {heap(100, 0, 0, 0), api.Spectrum{}, list(long, em(1, 9, 10, 20)), 2, true},
		// external transmitters in its interval
		{heap(100, 0, 0, 0), sources(source(40, 100, 10, 11)), list(long), 3, true}, {heap(100, 0, 0, 0), sources(source(41, 100, 10, 11)), list(long), 3, false}, {heap(100, 0, 0, 0), sources(source(41, 100, 19, 20)), list(long), 3, false}, {heap(100, 0, 0, 0), sources(source(41, 100, 20, 30)), list(long), 3, true}, {heap(100, 0, 0, 0), sources(source(41, 100, 0, 10)), list(long), 3, true}, {heap(100, 0, 0, 0), sources(source(41, 100, 0, 100)), list(em(0, 4, 10, 20)), 3, true},
		{heap(100, 20, 0, 0), sources(source(20, 100, 12, 13)), both, 3, true}, {heap(100, 21, 0, 0), sources(source(20, 100, 12, 13)), both, 3, false}, {heap(100, 20, 0, 0), sources(source(10, 100, 12, 13), source(11, 100, 13, 14)), both, 3, false},
		// fadings at the time at which it begins
		{heap(40, 0, 0, 0), fades(fade(0, 10, 11, 500)), list(long), 3, true}, {heap(39, 0, 0, 0), fades(fade(0, 10, 11, 500)), list(long), 3, false}, {heap(39, 0, 0, 0), fades(fade(0, 11, 20, 500)), list(long), 3, true}, {heap(39, 0, 0, 0), fades(fade(0, 0, 10, 500)), list(long), 3, true}, {heap(39, 0, 0, 0), fades(fade(0, 0, 11, 500)), list(long), 3, false},
		{heap(100, 80, 0, 0), fades(fade(1, 10, 11, 500)), both, 3, true}, {heap(100, 82, 0, 0), fades(fade(1, 10, 11, 500)), both, 3, false}, {heap(100, 80, 0, 0), fades(fade(1, 11, 20, 0)), both, 3, false},
		// external powers that are together as strong as no power is
		{strong, external, list(long), 3, true}, {strong, api.Spectrum{Sources: slices.Repeat([]api.Source{source(api.MaxPower, 1, 0, 1)}, 16)}, list(long), 3, false}, {strong, api.Spectrum{Sources: slices.Repeat([]api.Source{source(api.MaxPower, 1, 0, 1)}, 2)}, list(long), 3, false},
	} {
		c := scene{x.s, x.x, x.l}
		if is := c.received(t, 0, x.node); is != x.want {
			t.Errorf("%d: %v", i, is)
		}
		k, e := air.Receivers(x.s, x.x, x.l, 0)
		if e != api.OK || slices.Contains(k, x.node) != x.want {
			t.Errorf("%d: receivers %v %v", i, k, e)
		}
		// Another one that begins at the same time can be heard instead.
		if k := c.heard(t, x.node, x.l[0].Channel, x.l[0].From, x.l[0].From); (k == 0) != x.want {
			t.Errorf("%d: heard %d", i, k)
		}
	}
}

// P7.2: with the thresholds at their ends, signals are compared exactly.
func TestThresholds(t *testing.T) {
	for _, x := range []struct {
		signal, disturbance, threshold, noise int
		want                                  bool
	}{
		{11, 10, 1000, 1, true}, {10, 10, 1000, 1, false}, {1, 0, 1000, 1, true}, {1, 0, 1001, 1, false}, {2, 0, 1001, 1, true}, {1100, 10, 100000, 1, true}, {1099, 10, 100000, 1, false}, {100, 89, 1001, 10, true}, {100, 90, 1001, 10, false},
		{api.MaxPower, api.MaxPower - 1, 1000, 1, true}, {api.MaxPower, api.MaxPower, 1000, 1, false}, {api.MaxPower, 0, 1000, api.MaxPower, true}, {api.MaxPower, 0, 1001, api.MaxPower, false}, {api.MaxPower, api.MaxPower, 100000, api.MaxPower, false},
	} {
		s := heap(x.signal, x.disturbance, 0)
		s.Threshold, s.Noise = x.threshold, x.noise
		c := scene{s, api.Spectrum{}, list(em(0, 3, 0, 9), em(1, 3, 0, 9))}
		if is := c.received(t, 0, 2); is != x.want {
			t.Errorf("%v: %v", x, is)
		}
	}
}

// P7.3: when one listens, and which one of several is heard.
func TestHear(t *testing.T) {
	s := heap(1000, 1000, 100, 1, 1)
	one := list(em(0, 3, 10, 20))
	after := list(em(1, 3, 30, 40), em(0, 3, 10, 20), em(2, 3, 20, 30))
	for i, x := range []struct {
		l                       []api.Emission
		node, channel, from, to int
		want                    int
	}{
		{nil, 3, 3, 0, api.MaxTime, -1}, {one, 3, 3, 10, 10, 0}, {one, 3, 3, 0, 10, 0}, {one, 3, 3, 10, 12, 0}, {one, 3, 3, 0, api.MaxTime, 0}, {one, 3, 3, 9, 9, -1}, {one, 3, 3, 0, 9, -1}, {one, 3, 3, 11, 11, -1}, {one, 3, 3, 11, 20, -1}, {one, 3, 3, 9, 11, 0}, {one, 3, 3, 20, 30, -1},
		{one, 3, 4, 0, 100, -1}, {one, 3, 2, 0, 100, -1}, {one, 0, 3, 0, 100, -1}, {one, 1, 3, 0, 100, 0},
		{list(em(0, 3, 0, 9)), 3, 3, 0, 0, 0}, {list(em(0, 0, 0, 9)), 3, 0, 0, 0, 0}, {list(em(0, 15, 0, 9)), 3, 15, 0, 0, 0}, {list(em(0, 3, api.MaxTime-1, api.MaxTime)), 3, 3, api.MaxTime - 1, api.MaxTime, 0}, {list(em(0, 3, api.MaxTime-1, api.MaxTime)), 3, 3, api.MaxTime, api.MaxTime, -1},
		// the one that begins first, wherever it stands
		{after, 3, 3, 0, 100, 1}, {after, 3, 3, 10, 30, 1}, {after, 3, 3, 11, 30, 2}, {after, 3, 3, 20, 20, 2}, {after, 3, 3, 21, 30, 0}, {after, 3, 3, 21, 29, -1}, {after, 3, 3, 31, 99, -1}, {after, 0, 3, 0, 100, 2}, {after, 2, 3, 11, 100, 0},
		// two that begin at one time, of which one is stronger or none
		{list(em(0, 3, 10, 20), em(2, 3, 10, 20)), 3, 3, 0, 100, 0}, {list(em(2, 3, 10, 20), em(0, 3, 10, 20)), 3, 3, 0, 100, 1}, {list(em(0, 3, 10, 20), em(1, 3, 10, 20)), 3, 3, 0, 100, -1}, {list(em(2, 3, 10, 20), em(0, 4, 10, 20)), 3, 3, 10, 10, 0}, {list(em(2, 3, 10, 20), em(0, 4, 10, 20)), 3, 4, 10, 10, 1},
		// the one that begins first is not received
		{list(em(2, 3, 10, 20), em(0, 3, 15, 25)), 3, 3, 0, 100, 1}, {list(em(3, 3, 10, 20), em(0, 3, 15, 25)), 4, 3, 0, 100, 1}, {list(em(0, 3, 10, 20), em(1, 3, 15, 25), em(2, 3, 25, 30)), 3, 3, 0, 100, 2}, {list(em(2, 3, 10, 20), em(0, 3, 15, 25)), 3, 3, 0, 14, -1},
		// emissions that begin earlier disturb all the same
		{list(em(2, 3, 10, 20), em(0, 3, 5, 11)), 3, 3, 10, 10, -1}, {list(em(2, 3, 10, 20), em(0, 3, 5, 10)), 3, 3, 10, 10, 0}, {list(em(2, 3, 10, 20), em(0, 3, 19, 29)), 3, 3, 10, 10, -1},
		// who emits does not hear
		{list(em(0, 3, 10, 20), em(3, 9, 15, 16)), 3, 3, 0, 100, -1}, {list(em(0, 3, 10, 20), em(3, 9, 20, 30)), 3, 3, 0, 100, 0}, {list(em(0, 3, 10, 20), em(3, 9, 0, 10)), 3, 3, 0, 100, 0}, {list(em(0, 3, 10, 20), em(3, 9, 15, 16), em(1, 3, 20, 30)), 3, 3, 0, 100, 2},
	} {
		c := scene{s, api.Spectrum{}, x.l}
		if k := c.heard(t, x.node, x.channel, x.from, x.to); k != x.want {
			t.Errorf("%d: %d, want %d", i, k, x.want)
		}
	}
}

// P7.2: who receives an emission, in increasing order.
func TestReceivers(t *testing.T) {
	far := row()
	far.Threshold = 100000
	for i, x := range []struct {
		s    api.Site
		l    []api.Emission
		i    int
		want []int
	}{
		{row(), list(em(0, 3, 0, 9)), 0, []int{1, 2}}, {row(), list(em(1, 3, 0, 9)), 0, []int{0, 2}}, {row(), list(em(2, 3, 0, 9)), 0, []int{0, 1}}, {far, list(em(0, 3, 0, 9)), 0, []int{1, 2}}, {row(), list(em(0, 3, 0, 9), em(1, 4, 0, 9)), 0, []int{2}}, {row(), list(em(0, 3, 0, 9), em(1, 4, 0, 9)), 1, []int{2}}, {row(), list(em(0, 3, 0, 9), em(1, 3, 0, 9)), 0, nil}, {row(), list(em(0, 3, 0, 9), em(1, 3, 0, 9)), 1, []int{2}}, {row(), list(em(0, 3, 0, 9), em(1, 3, 9, 10), em(2, 3, 9, 10)), 0, []int{1, 2}},
		{heap(19, 0, 0), list(em(0, 3, 0, 9)), 0, nil}, {heap(20, 0, 0), list(em(0, 3, 0, 9)), 0, []int{1, 2}}, {heap(0, 0, 0, 20, 0), list(em(3, 3, 0, 9)), 0, []int{0, 1, 2, 4}}, {heap(make([]int, 32)...), list(em(31, 3, 0, 9)), 0, nil},
	} {
		if k, e := air.Receivers(x.s, api.Spectrum{}, x.l, x.i); !slices.Equal(k, x.want) || e != api.OK {
			t.Errorf("%d: %v %v, want %v", i, k, e, x.want)
		}
	}
}

// P7.4: the emissions because of which another one is not received.
func TestDisturbers(t *testing.T) {
	long := em(0, 3, 10, 20)
	none := api.Spectrum{}
	for i, x := range []struct {
		s    api.Site
		x    api.Spectrum
		l    []api.Emission
		i    int
		node int
		want []int
	}{
		{heap(100, 41, 0, 0), none, list(long, em(1, 3, 10, 20)), 0, 3, []int{1}}, {heap(100, 41, 0, 0), none, list(em(1, 3, 10, 20), long), 1, 3, []int{0}}, {heap(100, 30, 30, 0), none, list(em(2, 3, 19, 30), long, em(1, 3, 5, 11)), 1, 3, []int{0, 2}}, {heap(100, 30, 30, 0), none, list(em(2, 3, 9, 10), em(2, 3, 10, 11), em(1, 3, 20, 30), long, em(1, 4, 9, 11), em(1, 3, 11, 20)), 3, 3, []int{1, 5}},
		// each one that overlaps counts, however weak it is
		{heap(100, 41, 0, 0), none, list(long, em(2, 3, 10, 20), em(1, 3, 10, 20)), 0, 3, []int{1, 2}}, {heap(100, 0, 99, 0), none, list(long, em(1, 3, 10, 20), em(2, 3, 10, 20)), 0, 3, []int{1, 2}},
		// it is received
		{heap(100, 40, 0, 0), none, list(long, em(1, 3, 10, 20)), 0, 3, nil}, {heap(100, 99, 99, 0), none, list(long, em(1, 3, 20, 30), em(2, 4, 10, 20)), 0, 3, nil}, {heap(100, 0, 0, 0), none, list(long), 0, 3, nil},
		// it would not be received without other nodes
		{heap(19, 41, 0, 0), none, list(long, em(1, 3, 10, 20)), 0, 3, nil}, {heap(20, 1, 0, 0), none, list(long, em(1, 3, 10, 20)), 0, 3, []int{1}}, {heap(100, 41, 0, 0), sources(source(41, 100, 0, 100)), list(long, em(1, 3, 10, 20)), 0, 3, nil}, {heap(100, 41, 0, 0), sources(source(40, 100, 0, 100)), list(long, em(1, 3, 10, 20)), 0, 3, []int{1}}, {heap(100, 1, 0, 0), sources(source(40, 100, 0, 100)), list(long, em(1, 3, 10, 20)), 0, 3, []int{1}}, {heap(100, 0, 0, 0), sources(source(41, 100, 0, 100)), list(long), 0, 3, nil},
		{heap(39, 41, 0, 0), fades(fade(0, 10, 11, 500)), list(long, em(1, 3, 10, 20)), 0, 3, nil}, {heap(40, 41, 0, 0), fades(fade(0, 10, 11, 500)), list(long, em(1, 3, 10, 20)), 0, 3, []int{1}}, {heap(100, 41, 0, 0), fades(fade(1, 10, 11, 500)), list(long, em(1, 3, 10, 20)), 0, 3, nil},
		// its own node, and one that emits itself
		{heap(100, 41, 0, 0), none, list(long, em(1, 3, 10, 20)), 0, 0, nil}, {heap(100, 41, 0, 0), none, list(long, em(1, 3, 10, 20)), 0, 1, nil}, {heap(100, 41, 0, 0), none, list(long, em(1, 3, 10, 20), em(3, 9, 15, 16)), 0, 3, nil}, {heap(100, 41, 0, 0), none, list(long, em(1, 3, 10, 20), em(3, 9, 20, 26)), 0, 3, []int{1}},
	} {
		if k, e := air.Disturbers(x.s, x.x, x.l, x.i, x.node); !slices.Equal(k, x.want) || e != api.OK {
			t.Errorf("%d: %v %v, want %v", i, k, e, x.want)
		}
	}
}

// P7.2 to P7.4, P2: random scenes against what follows directly from the definitions.
func TestRandomScenes(t *testing.T) {
	roll := random(1)
	count := [2]int{}
	for range 3000 {
		c := randomScene(roll)
		if e := air.Check(c.s, c.x, c.l); e != api.OK {
			t.Fatal(c, e)
		}
		for i := range c.l {
			var receivers []int
			for node := range c.s.Nodes {
				external, others, from := c.parts(i, node)
				want := c.receives(i, node, external+others)
				if want {
					receivers = append(receivers, node)
				}
				if want || !c.receives(i, node, external) {
					from = nil
				}
				if n, e := air.Interference(c.s, c.x, c.l, i, node); n != external+others || e != api.OK {
					t.Fatalf("%v: interference with %d at %d: %d %v", c, i, node, n, e)
				}
				if is := c.received(t, i, node); is != want {
					t.Fatalf("%v: emission %d at node %d: %v", c, i, node, is)
				}
				if k, e := air.Disturbers(c.s, c.x, c.l, i, node); !slices.Equal(k, from) || e != api.OK {
					t.Fatalf("%v: disturbers of %d at %d: %v %v", c, i, node, k, e)
				}
				count[0] += len(from)
			}
			count[1] += len(receivers)
			if k, e := air.Receivers(c.s, c.x, c.l, i); !slices.Equal(k, receivers) || e != api.OK {
				t.Fatalf("%v: receivers of %d: %v %v", c, i, k, e)
			}
		}
	}
	if count[0] < 1000 || count[1] < 1000 {
		t.Error("too few scenes with receivers and disturbers:", count)
	}
}

// P7.3: random scenes against a look at all emissions that are received.
func TestRandomHearing(t *testing.T) {
	roll := random(2)
	for range 3000 {
		c := randomScene(roll)
		node, channel, from := roll(len(c.s.Nodes)-1), roll(1), roll(15)
		to := from + roll(10)
		want := -1
		for i, e := range c.l {
			begins := e.Channel == channel && from <= e.From && e.From <= to
			if begins && c.received(t, i, node) && (want < 0 || e.From < c.l[want].From) {
				want = i
			}
		}
		if i := c.heard(t, node, channel, from, to); i != want {
			t.Fatalf("%v: node %d on %d from %d to %d: %d, want %d", c, node, channel, from, to, i, want)
		}
	}
}

// P7.5, P2: if an emission is left out, all others are received that were received before.
func TestLessDisturbance(t *testing.T) {
	roll := random(3)
	for range 500 {
		c := randomScene(roll)
		for out := range c.l {
			less := c
			less.l = slices.Delete(slices.Clone(c.l), out, out+1)
			for i := range less.l {
				before := i
				if i >= out {
					before = i + 1
				}
				for node := range c.s.Nodes {
					if c.received(t, before, node) && !less.received(t, i, node) {
						t.Fatalf("%v: emission %d at node %d, without %d", c, before, node, out)
					}
				}
			}
		}
	}
}

// P7.5: at most one of several emissions that overlap on one channel is received by a node.
func TestAtMostOne(t *testing.T) {
	roll := random(4)
	for range 1000 {
		c := randomScene(roll)
		c.s.Threshold, c.s.Noise = 1000, 1
		for i := range c.l {
			for j := range i {
				if c.l[i].Channel != c.l[j].Channel || !air.Overlap(c.l[i], c.l[j]) {
					continue
				}
				for node := range c.s.Nodes {
					if c.received(t, i, node) && c.received(t, j, node) {
						t.Fatalf("%v: emissions %d and %d at node %d", c, i, j, node)
					}
				}
			}
		}
	}
}

// P7.5: an emission on another channel changes nothing, except for its own node.
func TestOtherChannels(t *testing.T) {
	roll := random(5)
	for range 1000 {
		c := randomScene(roll)
		own, from := roll(len(c.s.Nodes)-1), roll(14)
		more := c
		more.l = addFree(c.l, em(own, 9, from, from+1+roll(6)))
		for i := range c.l {
			for node := range c.s.Nodes {
				before, _ := air.Interference(c.s, c.x, c.l, i, node)
				after, e := air.Interference(more.s, more.x, more.l, i, node)
				if before != after || e != api.OK {
					t.Fatalf("%v: interference with %d at %d: %d, then %d %v", more, i, node, before, after, e)
				}
				if node != own && c.received(t, i, node) != more.received(t, i, node) {
					t.Fatalf("%v: emission %d at node %d", more, i, node)
				}
			}
		}
	}
}

// P7.5: who listens longer does not miss what is heard otherwise, unless something is heard earlier.
func TestListeningLonger(t *testing.T) {
	roll := random(6)
	for range 2000 {
		c := randomScene(roll)
		node, channel, from := roll(len(c.s.Nodes)-1), roll(1), 5+roll(10)
		to := from + roll(10)
		short := c.heard(t, node, channel, from, to)
		long := c.heard(t, node, channel, from-roll(5), to+roll(5))
		if short >= 0 && long != short && (long < 0 || c.l[long].From >= c.l[short].From) {
			t.Fatalf("%v: node %d on %d from %d to %d: %d, longer %d", c, node, channel, from, to, short, long)
		}
	}
}

// P1: no call panics, whatever numbers there are.
func TestAllArguments(t *testing.T) {
	numbers := append([]int{-1, 0, 1, 2, 3, 15, 16, 31, 32, 48, api.MaxTime - 1, api.MaxTime, api.MaxTime + 1}, extremes...)
	l := list(em(0, 3, 0, 9), em(2, 3, 0, 9))
	for _, a := range numbers {
		for _, b := range numbers {
			wrong := list(em(a, b, a, b), em(b, a, b, a))
			air.Check(row(), api.Spectrum{}, wrong)
			air.Overlap(wrong[0], wrong[1])
			wrongSite := api.Site{Nodes: make([]api.Point, 2), Powers: []int{a, b}, Exponent: a, Noise: b, Threshold: a}
			wrongSpectrum := sources(source(a, b, a, b))
			for _, c := range []scene{{row(), api.Spectrum{}, wrong}, {wrongSite, api.Spectrum{}, l}, {row(), wrongSpectrum, l}, {row(), api.Spectrum{}, l}} {
				air.Interference(c.s, c.x, c.l, a, b)
				air.Received(c.s, c.x, c.l, a, b)
				air.Disturbers(c.s, c.x, c.l, a, b)
				air.Receivers(c.s, c.x, c.l, a)
				air.Hear(c.s, c.x, c.l, api.Listening{Node: a, Channel: b, From: a, To: b})
				air.Hear(c.s, c.x, c.l, api.Listening{Node: 1, Channel: 3, From: a, To: b})
			}
			is, e := air.Received(row(), api.Spectrum{}, l, a, b)
			if fits := a >= 0 && a < 2 && b >= 0 && b < 3; fits != (e == api.OK) || is != (a == 0 && b == 1) {
				t.Errorf("emission %d at node %d: %v %v", a, b, is, e)
			}
		}
	}
}

// P1, P7.2 to P7.4: arguments are not changed, results are new, and lists without elements are like no lists.
func TestArgumentsStay(t *testing.T) {
	build := func() scene {
		return scene{row(), api.Spectrum{Sources: []api.Source{source(5, 100, 20, 30)}, Fades: []api.Fade{fade(1, 2, 3, 4)}}, list(em(0, 3, 5, 9), em(2, 3, 0, 9))}
	}
	c := build()
	air.Check(c.s, c.x, c.l)
	air.Interference(c.s, c.x, c.l, 1, 1)
	air.Received(c.s, c.x, c.l, 1, 1)
	air.Hear(c.s, c.x, c.l, api.Listening{Node: 1, Channel: 3, From: 0, To: 9})
	receivers, _ := air.Receivers(c.s, c.x, c.l, 0)
	disturbers, _ := air.Disturbers(c.s, c.x, c.l, 1, 1)
	if !reflect.DeepEqual(c, build()) || len(receivers) != 1 || len(disturbers) != 1 {
		t.Fatal(c, receivers, disturbers)
	}
	receivers[0], disturbers[0] = 99, 99
	receivers, _ = air.Receivers(c.s, c.x, c.l, 0)
	disturbers, _ = air.Disturbers(c.s, c.x, c.l, 1, 1)
	if receivers[0] != 1 || disturbers[0] != 0 {
		t.Error(receivers, disturbers)
	}
	empty := api.Spectrum{Sources: []api.Source{}, Fades: []api.Fade{}}
	if e := air.Check(row(), empty, []api.Emission{}); e != api.OK {
		t.Error(e)
	}
}
