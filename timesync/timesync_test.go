package timesync_test

import (
	"math"
	"reflect"
	"slices"
	"testing"

	"hopmesh/api"
	"hopmesh/clock"
	"hopmesh/guard"
	"hopmesh/timesync"
)

const (
	far      = 1 << 40 // the greatest offset of a clock
	lastSlot = api.MaxTime / api.SlotTime
)

// extremes are numbers that nothing allows.
var extremes = []int{math.MinInt, math.MinInt + 1, -1 << 42, 1 << 42, math.MaxInt - 1, math.MaxInt}

// cl returns a clock.
func cl(offset, drift int) api.Clock { return api.Clock{Offset: offset, Drift: drift} }

// st returns a state with a clock without drift.
func st(offset, slot, count int) api.Synced {
	return api.Synced{Clock: cl(offset, 0), Slot: slot, Count: count}
}

// fresh returns the state of a clock that was never corrected.
func fresh(c api.Clock) api.Synced { return api.Synced{Clock: c, Slot: -1} }

// wrong returns states that are not valid.
func wrong() []api.Synced {
	l := []api.Synced{
		{}, st(0, -2, 0), st(0, -2, 1), st(0, -1, 1), st(0, -1, -1), st(0, 0, 0), st(0, 5, 0), st(0, 5, -1), st(0, 5, api.MaxRun+1), st(0, -1, api.MaxRun), st(0, lastSlot+1, 1), st(0, lastSlot+1, 0), st(0, lastSlot, 0),
		fresh(cl(far+1, 0)), fresh(cl(-far-1, 0)), fresh(cl(0, api.MaxDrift+1)), fresh(cl(0, -api.MaxDrift-1)), {Clock: cl(0, api.MaxDrift+1), Slot: 3, Count: 1}, {Clock: cl(far+1, 0), Slot: -2, Count: -1},
	}
	for _, n := range extremes {
		l = append(l, st(n, -1, 0), fresh(cl(0, n)), st(0, n, 1), st(0, n, 0), st(0, 5, n), st(0, -1, n))
	}
	return l
}

// random returns a function that gives numbers from 0 to most, which follow from a seed.
func random(seed uint64) func(most int) int {
	return func(most int) int {
		seed = seed*6364136223846793005 + 1442695040888963407
		return int(seed>>16) % (most + 1)
	}
}

// show computes what a valid clock shows.
func show(c api.Clock, t int) int {
	n, e := clock.Show(c, t)
	if e != api.OK {
		panic(e)
	}
	return n
}

// within reports whether a number is from least to most.
func within(n, least, most int) bool { return n >= least && n <= most }

// P10.1: which states are valid.
func TestCheck(t *testing.T) {
	for _, s := range []api.Synced{
		st(0, -1, 0), st(far, -1, 0), st(-far, -1, 0), fresh(cl(0, api.MaxDrift)), fresh(cl(7, -api.MaxDrift)), st(0, 0, 1), st(0, 0, api.MaxRun), st(0, lastSlot, 1), st(0, lastSlot, api.MaxRun), st(0, lastSlot-1, api.MaxRun-1), st(-5, 7, 3), {Clock: cl(far, api.MaxDrift), Slot: lastSlot, Count: api.MaxRun},
	} {
		if e := timesync.Check(s); e != api.OK {
			t.Errorf("%v: %v", s, e)
		}
	}
	for _, s := range wrong() {
		if e := timesync.Check(s); e != api.ErrArg {
			t.Errorf("%v: %v", s, e)
		}
	}
}

// P10.1: differences, and the errors in their order.
func TestMeasure(t *testing.T) {
	for _, x := range []struct {
		c          api.Clock
		slot, t, n int
		e          api.Errno
	}{
		{cl(40, 0), 1, 12120, 40, api.OK}, {cl(0, 0), 1, 12080, -40, api.OK}, {cl(0, 0), 0, 2120, 0, api.OK}, {cl(0, 0), 0, 0, -2120, api.OK}, {cl(5, -100000), 1, 12117, 0, api.OK}, {cl(5, -100000), 1, 12118, 1, api.OK}, {cl(0, 100000), 1, 20000, 7882, api.OK},
		{cl(0, 0), 0, api.MaxTime, api.MaxTime - 2120, api.OK}, {cl(0, 0), lastSlot, 0, -lastSlot*10000 - 2120, api.OK}, {cl(far, 0), 0, api.MaxTime, 2*far - 2120, api.OK}, {cl(-far, 0), lastSlot, 0, -far - lastSlot*10000 - 2120, api.OK},
		{cl(0, 0), -1, 0, 0, api.ErrRange}, {cl(0, 0), lastSlot + 1, 0, 0, api.ErrRange}, {cl(0, 0), 0, -1, 0, api.ErrRange}, {cl(0, 0), 0, api.MaxTime + 1, 0, api.ErrRange}, {cl(0, 0), -1, -1, 0, api.ErrRange},
		{cl(far+1, 0), 0, 0, 0, api.ErrArg}, {cl(far+1, 0), -1, 0, 0, api.ErrArg}, {cl(0, api.MaxDrift+1), 0, -1, 0, api.ErrArg}, {cl(-far-1, 0), -1, -1, 0, api.ErrArg},
	} {
		if n, e := timesync.Measure(x.c, x.slot, x.t); n != x.n || e != x.e {
			t.Errorf("%v: %d %v", x, n, e)
		}
	}
}

// P10.1: what a node hears corrects it by the negative difference.
func TestHear(t *testing.T) {
	for _, x := range []struct {
		s       api.Synced
		slot, t int
		want    api.Synced
		e       api.Errno
	}{
		{st(40, -1, 0), 1, 12120, st(0, 1, 1), api.OK}, {st(0, -1, 0), 0, 2120, st(0, 0, 1), api.OK}, {st(0, -1, 0), 0, 2100, st(20, 0, 1), api.OK}, {st(7, 3, 5), 4, 42120, st(0, 4, 6), api.OK}, {api.Synced{Clock: cl(5, -100000), Slot: 0, Count: 2}, 1, 12120, api.Synced{Clock: cl(2, -100000), Slot: 1, Count: 3}, api.OK},
		// slots that are not greater
		{st(0, 1, 1), 1, 12120, api.Synced{}, api.ErrOrder}, {st(0, 1, 1), 0, 2120, api.Synced{}, api.ErrOrder}, {st(0, 1, 1), 2, 22120, st(0, 2, 2), api.OK}, {st(0, lastSlot, 1), lastSlot, api.MaxTime, api.Synced{}, api.ErrOrder}, {st(0, lastSlot-1, 1), lastSlot, lastSlot*10000 + 2120, st(0, lastSlot, 2), api.OK},
		// differences
		{st(4999, -1, 0), 1, 12120, st(0, 1, 1), api.OK}, {st(5000, -1, 0), 1, 12120, api.Synced{}, api.ErrLate}, {st(-4999, -1, 0), 1, 12120, st(0, 1, 1), api.OK}, {st(-5000, -1, 0), 1, 12120, api.Synced{}, api.ErrLate}, {st(0, -1, 0), 1, 17119, st(-4999, 1, 1), api.OK}, {st(0, -1, 0), 1, 17120, api.Synced{}, api.ErrLate}, {st(0, -1, 0), 1, 7121, st(4999, 1, 1), api.OK}, {st(0, -1, 0), 1, 7120, api.Synced{}, api.ErrLate}, {st(0, -1, 0), lastSlot, 0, api.Synced{}, api.ErrLate}, {st(far, -1, 0), 0, api.MaxTime, api.Synced{}, api.ErrLate},
		// counts
		{st(0, 1, api.MaxRun), 2, 22120, api.Synced{}, api.ErrFull}, {st(0, 1, api.MaxRun-1), 2, 22120, st(0, 2, api.MaxRun), api.OK},
		// offsets
		{st(far, -1, 0), lastSlot, 0, api.Synced{}, api.ErrLate}, {api.Synced{Clock: cl(-far, 0), Slot: -1}, 0, api.MaxTime, st(2120-far, 0, 1), api.OK}, {st(2000-far, -1, 0), 0, api.MaxTime, st(2120-far, 0, 1), api.OK},
		// the order of errors
		{st(0, 0, 0), -1, -1, api.Synced{}, api.ErrArg}, {st(far+1, -1, 0), 1, 12120, api.Synced{}, api.ErrArg}, {st(0, -1, 0), -1, 0, api.Synced{}, api.ErrRange}, {st(0, 5, 1), -1, 0, api.Synced{}, api.ErrRange}, {st(0, -1, 0), lastSlot + 1, 0, api.Synced{}, api.ErrRange}, {st(0, 5, 1), 3, -1, api.Synced{}, api.ErrRange}, {st(0, -1, 0), 0, api.MaxTime + 1, api.Synced{}, api.ErrRange}, {st(0, 5, api.MaxRun), 5, 0, api.Synced{}, api.ErrOrder}, {st(0, 5, 1), 5, 0, api.Synced{}, api.ErrOrder}, {st(0, 4, api.MaxRun), 5, 0, api.Synced{}, api.ErrLate}, {st(0, 4, api.MaxRun), 5, 52120, api.Synced{}, api.ErrFull},
	} {
		if s, e := timesync.Hear(x.s, x.slot, x.t); s != x.want || e != x.e {
			t.Errorf("%v in %d at %d: %v %v, want %v %v", x.s, x.slot, x.t, s, e, x.want, x.e)
		}
	}
}

// P10.1: Offsets that would pass 2^40 and -2^40 by what a node hears.
func TestHearFar(t *testing.T) {
	for _, x := range []struct {
		s       api.Synced
		slot, t int
		want    api.Synced
		e       api.Errno
	}{
		// slow clocks that are far behind, at the time at which they show the sending time of slot 0, or less, or more
		{api.Synced{Clock: cl(-far, 100000), Slot: -1}, 0, sending(-far, 100000, 0), api.Synced{Clock: cl(-far, 100000), Slot: 0, Count: 1}, api.OK},
		{api.Synced{Clock: cl(-far, 100000), Slot: -1}, 0, sending(-far, 100000, 0) + 1, api.Synced{}, api.ErrArg},
		{api.Synced{Clock: cl(-far, 100000), Slot: -1}, 0, sending(-far, 100000, 0) + 4000, api.Synced{}, api.ErrArg},
		{api.Synced{Clock: cl(-far, 100000), Slot: -1}, 0, sending(-far, 100000, 0) - 1, api.Synced{Clock: cl(-far+1, 100000), Slot: 0, Count: 1}, api.OK},
		{api.Synced{Clock: cl(-far, 100000), Slot: 0, Count: api.MaxRun}, 1, sending(-far, 100000, 1) + 1, api.Synced{}, api.ErrFull},
	} {
		if s, e := timesync.Hear(x.s, x.slot, x.t); s != x.want || e != x.e {
			t.Errorf("%v in %d at %d: %v %v, want %v %v", x.s, x.slot, x.t, s, e, x.want, x.e)
		}
	}
}

// sending returns when a clock reaches the sending time of a slot.
func sending(offset, drift, slot int) int {
	t, e := clock.Send(cl(offset, drift), slot)
	if e != api.OK {
		panic(e)
	}
	return t
}

// P10.1: what the time parent measured corrects a node.
func TestAcked(t *testing.T) {
	for _, x := range []struct {
		s       api.Synced
		slot, d int
		want    api.Synced
		e       api.Errno
	}{
		{st(40, -1, 0), 1, -40, st(0, 1, 1), api.OK}, {st(40, -1, 0), 0, 40, st(80, 0, 1), api.OK}, {st(40, 3, 7), 9, 0, st(40, 9, 8), api.OK}, {st(0, -1, 0), lastSlot, 1, st(1, lastSlot, 1), api.OK}, {api.Synced{Clock: cl(5, 77), Slot: 0, Count: 1}, 1, 6, api.Synced{Clock: cl(11, 77), Slot: 1, Count: 2}, api.OK},
		{st(0, 5, 1), 5, 0, api.Synced{}, api.ErrOrder}, {st(0, 5, 1), 4, 0, api.Synced{}, api.ErrOrder}, {st(0, 5, 1), 6, 0, st(0, 6, 2), api.OK}, {st(0, lastSlot, 1), lastSlot, 0, api.Synced{}, api.ErrOrder},
		{st(0, -1, 0), 1, 4999, st(4999, 1, 1), api.OK}, {st(0, -1, 0), 1, 5000, api.Synced{}, api.ErrLate}, {st(0, -1, 0), 1, -4999, st(-4999, 1, 1), api.OK}, {st(0, -1, 0), 1, -5000, api.Synced{}, api.ErrLate}, {st(0, -1, 0), 1, math.MaxInt, api.Synced{}, api.ErrLate}, {st(0, -1, 0), 1, math.MinInt, api.Synced{}, api.ErrLate},
		{st(0, 1, api.MaxRun), 2, 0, api.Synced{}, api.ErrFull}, {st(0, 1, api.MaxRun-1), 2, 0, st(0, 2, api.MaxRun), api.OK},
		{st(far, -1, 0), 1, 1, api.Synced{}, api.ErrArg}, {st(far, -1, 0), 1, 0, st(far, 1, 1), api.OK}, {st(far-1, -1, 0), 1, 1, st(far, 1, 1), api.OK}, {st(far-4998, -1, 0), 1, 4999, api.Synced{}, api.ErrArg}, {st(far-4999, -1, 0), 1, 4999, st(far, 1, 1), api.OK}, {st(-far, -1, 0), 1, -1, api.Synced{}, api.ErrArg}, {st(1-far, -1, 0), 1, -1, st(-far, 1, 1), api.OK}, {st(-far, -1, 0), 1, 0, st(-far, 1, 1), api.OK},
		// the order of errors
		{st(0, 5, 0), -1, 5000, api.Synced{}, api.ErrArg}, {st(0, 5, 1), -1, 5000, api.Synced{}, api.ErrRange}, {st(0, -1, 0), lastSlot + 1, 0, api.Synced{}, api.ErrRange}, {st(0, -1, 0), -1, 0, api.Synced{}, api.ErrRange}, {st(0, 5, api.MaxRun), 5, 5000, api.Synced{}, api.ErrOrder}, {st(far, 4, api.MaxRun), 5, 5000, api.Synced{}, api.ErrLate}, {st(far, 4, api.MaxRun), 5, 4999, api.Synced{}, api.ErrFull}, {st(far, 4, 1), 5, 4999, api.Synced{}, api.ErrArg},
	} {
		if s, e := timesync.Acked(x.s, x.slot, x.d); s != x.want || e != x.e {
			t.Errorf("%v in %d by %d: %v %v, want %v %v", x.s, x.slot, x.d, s, e, x.want, x.e)
		}
	}
}

// P10.1: a state that is not valid is named before all other errors, and is never synchronized.
func TestWrongStates(t *testing.T) {
	for _, s := range wrong() {
		for _, n := range append([]int{-1, 0, 1, lastSlot + 1}, extremes...) {
			for _, m := range append([]int{-1, 0, 5000}, extremes...) {
				heard, e := timesync.Hear(s, n, m)
				acked, f := timesync.Acked(s, n, m)
				if heard != (api.Synced{}) || acked != (api.Synced{}) || e != api.ErrArg || f != api.ErrArg {
					t.Errorf("%v with %d %d: %v %v, %v %v", s, n, m, heard, e, acked, f)
				}
				if timesync.Synchronized(s, n, m) {
					t.Errorf("%v with %d %d", s, n, m)
				}
			}
		}
	}
}

// P10.1: states that were corrected lately.
func TestSynchronized(t *testing.T) {
	for _, x := range []struct {
		s          api.Synced
		slot, keep int
		want       bool
	}{
		{st(0, 5, 1), 5, 0, true}, {st(0, 5, 1), 4, 0, false}, {st(0, 5, 1), 6, 0, false}, {st(0, 5, 1), 6, 1, true}, {st(0, 5, 1), 7, 1, false}, {st(0, 5, 1), 15, 10, true}, {st(0, 5, 1), 16, 10, false}, {st(0, 5, 1), 14, 10, true}, {st(0, 5, 1), 4, 10, false}, {st(0, 5, 1), 5, -1, false}, {st(0, 5, 1), 4, -1, false}, {st(0, 0, 1), 0, 0, true}, {st(0, 0, 1), -1, 5, false},
		{st(0, -1, 0), -1, 0, false}, {st(0, -1, 0), -1, 10, false}, {st(0, -1, 0), 0, 1, false}, {st(0, -1, 0), 3, 10, false}, {st(0, 5, 0), 5, 10, false}, {st(far+1, 5, 1), 5, 10, false},
		// any numbers
		{st(0, 5, 1), 5, math.MaxInt, true}, {st(0, 5, 1), math.MaxInt, math.MaxInt, true}, {st(0, 5, 1), math.MaxInt, math.MaxInt - 5, true}, {st(0, 5, 1), math.MaxInt, math.MaxInt - 6, false}, {st(0, 5, 1), math.MinInt, math.MaxInt, false}, {st(0, 5, 1), math.MinInt, math.MinInt, false}, {st(0, 5, 1), math.MaxInt, math.MinInt, false}, {st(0, 5, 1), 5, math.MinInt, false}, {st(0, 5, 1), lastSlot + 1, lastSlot, true}, {st(0, lastSlot, 1), lastSlot + 9, 9, true}, {st(0, lastSlot, 1), lastSlot + 9, 8, false},
	} {
		if is := timesync.Synchronized(x.s, x.slot, x.keep); is != x.want {
			t.Errorf("%v: %v", x, is)
		}
	}
}

// chain returns the parents of n nodes in a row.
func chain(n int) []int {
	l := make([]int, n)
	for i := range l {
		l[i] = i - 1
	}
	return l
}

// P10.2: depths of trees, and lists that are none.
func TestDepths(t *testing.T) {
	upTo31 := make([]int, api.MaxNodes)
	for i := range upTo31 {
		upTo31[i] = i
	}
	backwards, down := []int{-1}, []int{0}
	for i := 1; i < api.MaxNodes; i++ {
		backwards = append(backwards, (i+1)%api.MaxNodes)
		down = append(down, api.MaxNodes-i)
	}
	for _, x := range []struct{ parents, want []int }{
		{[]int{-1}, []int{0}}, {[]int{-1, 0}, []int{0, 1}}, {[]int{-1, 0, 0, 0}, []int{0, 1, 1, 1}}, {[]int{-1, 2, 0, 1}, []int{0, 2, 1, 3}}, {[]int{-1, 3, 3, 4, 0}, []int{0, 3, 3, 2, 1}}, {chain(api.MaxNodes), upTo31}, {backwards, down},
	} {
		if d, e := timesync.Depths(x.parents); !slices.Equal(d, x.want) || e != api.OK {
			t.Errorf("%v: %v %v", x.parents, d, e)
		}
	}
	for _, l := range notTrees() {
		if d, e := timesync.Depths(l); len(d) > 0 || e != api.ErrArg {
			t.Errorf("%v: %v %v", l, d, e)
		}
	}
}

// notTrees returns lists of parents that are no trees.
func notTrees() [][]int {
	l := [][]int{
		nil, {}, chain(api.MaxNodes + 1), make([]int, 5000), {0}, {1}, {-2}, {0, 0}, {1, 0}, {1, -1}, {0, -1},
		{-1, 1}, {-1, 0, 2}, {-1, 2, 1}, {-1, 0, 3, 2}, {-1, 2, 3, 1}, {-1, 2, 3, 2, 0},
		{-1, -1}, {-1, 0, -1}, {-1, 2, -1}, {-1, -2}, {-1, 2}, {-1, 0, 3}, {-1, 5, 0},
	}
	for _, n := range extremes {
		l = append(l, []int{n}, []int{n, 0}, []int{-1, n}, []int{-1, 0, n}, []int{-1, 2, n})
	}
	return l
}

// P10.2: random lists of parents against following each node by itself.
func TestRandomDepths(t *testing.T) {
	roll := random(1)
	trees := 0
	for range 20000 {
		n := 1 + roll(6)
		parents := make([]int, n)
		for i := range parents {
			parents[i] = roll(n-1+roll(1)) - roll(1)
		}
		parents[0] = -1
		want, isTree := depths(parents)
		d, e := timesync.Depths(parents)
		if isTree != (e == api.OK) || e != api.OK && e != api.ErrArg || !slices.Equal(d, want) {
			t.Fatalf("%v: %v %v, want %v", parents, d, e, want)
		}
		if isTree {
			trees++
		}
	}
	if trees < 1000 || trees > 19000 {
		t.Error(trees)
	}
}

// depths finds depths by giving each node the one behind its parent's until nothing changes; it also reports whether all got one.
func depths(parents []int) ([]int, bool) {
	d := make([]int, len(parents))
	known := make([]bool, len(parents))
	known[0] = parents[0] == -1
	for range parents {
		for i, p := range parents {
			if i > 0 && !known[i] && within(p, 0, len(parents)-1) && known[p] {
				d[i], known[i] = d[p]+1, true
			}
		}
	}
	if slices.Contains(known, false) {
		return nil, false
	}
	return d, true
}

// P10.2: corrections of both kinds, one after the other.
func TestRun(t *testing.T) {
	three := []api.Synced{st(0, -1, 0), st(40, -1, 0), st(-25, -1, 0)}
	for _, x := range []struct {
		l       []api.Synced
		parents []int
		steps   []api.Sync
		want    []api.Synced
	}{
		{three, []int{-1, 0, 1}, nil, three}, {three[:1], []int{-1}, nil, three[:1]},
		{three, []int{-1, 0, 1}, []api.Sync{{Node: 1, Slot: 1}}, []api.Synced{st(0, -1, 0), st(0, 1, 1), st(-25, -1, 0)}},
		{three, []int{-1, 0, 1}, []api.Sync{{Node: 1, Slot: 1, Acked: true}}, []api.Synced{st(0, -1, 0), st(0, 1, 1), st(-25, -1, 0)}},
		{three, []int{-1, 0, 1}, []api.Sync{{Node: 2, Slot: 1}}, []api.Synced{st(0, -1, 0), st(40, -1, 0), st(40, 1, 1)}},
		{three, []int{-1, 0, 1}, []api.Sync{{Node: 2, Slot: 1}, {Node: 1, Slot: 1}}, []api.Synced{st(0, -1, 0), st(0, 1, 1), st(40, 1, 1)}},
		{three, []int{-1, 0, 1}, []api.Sync{{Node: 1, Slot: 1}, {Node: 2, Slot: 1}}, []api.Synced{st(0, -1, 0), st(0, 1, 1), st(0, 1, 1)}},
		{three, []int{-1, 0, 0}, []api.Sync{{Node: 2, Slot: 7, Acked: true}, {Node: 1, Slot: 5}, {Node: 2, Slot: 8}, {Node: 1, Slot: 9, Acked: true}}, []api.Synced{st(0, -1, 0), st(0, 9, 2), st(0, 8, 2)}},
		{three, []int{-1, 2, 0}, []api.Sync{{Node: 1, Slot: 3, Acked: true}, {Node: 2, Slot: 3}}, []api.Synced{st(0, -1, 0), st(-25, 3, 1), st(0, 3, 1)}},
		// the own clock of node 0 does not matter for its state
		{[]api.Synced{st(9, 4, 2), st(0, 2, 1)}, []int{-1, 0}, []api.Sync{{Node: 1, Slot: 3}}, []api.Synced{st(9, 4, 2), st(9, 3, 2)}},
		// drifts
		{[]api.Synced{fresh(cl(0, 100000)), fresh(cl(0, -100000))}, []int{-1, 0}, []api.Sync{{Node: 1, Slot: 100}}, []api.Synced{fresh(cl(0, 100000)), {Clock: cl(201, -100000), Slot: 100, Count: 1}}},
		{[]api.Synced{fresh(cl(0, 100000)), fresh(cl(0, -100000))}, []int{-1, 0}, []api.Sync{{Node: 1, Slot: 100, Acked: true}}, []api.Synced{fresh(cl(0, 100000)), {Clock: cl(201, -100000), Slot: 100, Count: 1}}},
		// what is shown at the time 0 already: windows do not count, and the difference is that of the time 0
		{[]api.Synced{st(9000, -1, 0), st(7000, -1, 0)}, []int{-1, 0}, []api.Sync{{Node: 1, Slot: 0}}, []api.Synced{st(9000, -1, 0), st(2120, 0, 1)}},
		{[]api.Synced{st(7000, -1, 0), st(9000, -1, 0)}, []int{-1, 0}, []api.Sync{{Node: 1, Slot: 0, Acked: true}}, []api.Synced{st(7000, -1, 0), st(13880, 0, 1)}},
	} {
		l, i, e := timesync.Run(x.l, x.parents, x.steps)
		if !slices.Equal(l, x.want) || i != -1 || e != api.OK {
			t.Errorf("%v: %v %d %v, want %v", x.steps, l, i, e, x.want)
		}
	}
}

// P10.2: errors of arguments, and of steps with their index.
func TestRunErrors(t *testing.T) {
	full := []api.Synced{st(0, -1, 0), st(0, 3, api.MaxRun), st(0, 3, 1)}
	ahead := []api.Synced{st(0, -1, 0), st(5000, -1, 0), st(4999, -1, 0)}
	late := []api.Synced{st(-far, -1, 0), st(0, -1, 0), st(2119-far, -1, 0)}
	row := []int{-1, 0, 1}
	many := make([]api.Sync, api.MaxList+1)
	for i := range many {
		many[i] = api.Sync{Node: 2, Slot: i}
	}
	for _, x := range []struct {
		l       []api.Synced
		parents []int
		steps   []api.Sync
		i       int
		e       api.Errno
	}{
		{nil, nil, nil, -1, api.ErrArg}, {full, row[:2], nil, -1, api.ErrArg}, {full[:2], row, nil, -1, api.ErrArg}, {full, []int{-1, 2, 1}, nil, -1, api.ErrArg}, {full[:1], []int{0}, nil, -1, api.ErrArg}, {[]api.Synced{st(0, -1, 0), st(0, 0, 0)}, row[:2], nil, -1, api.ErrArg}, {[]api.Synced{st(0, -1, 1), st(0, -1, 0)}, row[:2], nil, -1, api.ErrArg}, {make([]api.Synced, 33), chain(33), nil, -1, api.ErrArg}, {nil, row, nil, -1, api.ErrArg},
		{[]api.Synced{st(0, -1, 0), st(0, -1, 0), st(0, -1, 0)}, row, many, -1, api.ErrArg}, {[]api.Synced{st(0, -1, 0), st(0, -1, 0), st(0, -1, 0)}, row, many[:api.MaxList], -1, api.OK},
		{full, row, []api.Sync{{Node: 0, Slot: 5}}, 0, api.ErrNotFound}, {full, row, []api.Sync{{Node: 3, Slot: 5}}, 0, api.ErrNotFound}, {full, row, []api.Sync{{Node: -1, Slot: -1}}, 0, api.ErrNotFound}, {full, row, []api.Sync{{Node: math.MaxInt, Slot: 5}}, 0, api.ErrNotFound}, {full, row, []api.Sync{{Node: math.MinInt, Slot: 5, Acked: true}}, 0, api.ErrNotFound}, {full[:1], []int{-1}, []api.Sync{{Node: 0, Slot: 5}}, 0, api.ErrNotFound}, {full[:1], []int{-1}, []api.Sync{{Node: 1, Slot: 5}}, 0, api.ErrNotFound},
		{full, row, []api.Sync{{Node: 1, Slot: -1}}, 0, api.ErrRange}, {full, row, []api.Sync{{Node: 1, Slot: lastSlot + 1, Acked: true}}, 0, api.ErrRange}, {full, row, []api.Sync{{Node: 2, Slot: math.MinInt}}, 0, api.ErrRange},
		{full, row, []api.Sync{{Node: 1, Slot: 4}}, 0, api.ErrFull}, {full, row, []api.Sync{{Node: 1, Slot: 3}}, 0, api.ErrOrder}, {full, row, []api.Sync{{Node: 2, Slot: 3, Acked: true}}, 0, api.ErrOrder},
		// errors behind other steps
		{full, row, []api.Sync{{Node: 2, Slot: 4}, {Node: 2, Slot: 5, Acked: true}, {Node: 1, Slot: 5, Acked: true}, {Node: 0}}, 2, api.ErrFull}, {full, row, []api.Sync{{Node: 2, Slot: 4}, {Node: 2, Slot: 4}}, 1, api.ErrOrder}, {full, row, []api.Sync{{Node: 2, Slot: 4}, {Node: 7, Slot: 4}}, 1, api.ErrNotFound}, {full, row, []api.Sync{{Node: 2, Slot: 4}, {Node: 2, Slot: 6}, {Node: 2, Slot: 5}, {Node: 2, Slot: 5}}, 2, api.ErrOrder},
		{ahead, row, []api.Sync{{Node: 2, Slot: 1}, {Node: 1, Slot: 1}}, 1, api.ErrLate}, {ahead, []int{-1, 0, 0}, []api.Sync{{Node: 2, Slot: 1, Acked: true}, {Node: 1, Slot: 1, Acked: true}}, 1, api.ErrLate},
		// frames that are never sent: the sender is the parent, or the node itself
		{late, row, []api.Sync{{Node: 1, Slot: 0}}, 0, api.ErrLate}, {late, row, []api.Sync{{Node: 2, Slot: 1, Acked: true}}, 0, api.ErrLate}, {late, []int{-1, 0, 0}, []api.Sync{{Node: 2, Slot: 0, Acked: true}}, 0, api.ErrLate},
		// Offsets that would pass -2^40: fast clocks that are as far behind as clocks can be
		{[]api.Synced{fresh(cl(-far, 99999)), fresh(cl(-far, 100000))}, row[:2], []api.Sync{{Node: 1, Slot: 0, Acked: true}}, 0, api.ErrArg}, {[]api.Synced{fresh(cl(-far, 99999)), fresh(cl(-far, 100000))}, row[:2], []api.Sync{{Node: 1, Slot: 0}}, 0, api.ErrArg}, {[]api.Synced{fresh(cl(2000-far, 99999)), fresh(cl(-far, 100000))}, row[:2], []api.Sync{{Node: 1, Slot: 0, Acked: true}}, -1, api.OK},
	} {
		l, i, e := timesync.Run(x.l, x.parents, x.steps)
		if i != x.i || e != x.e || e != api.OK && len(l) > 0 {
			t.Errorf("%v with %v: %v %d %v, want %d %v", x.parents, x.steps, l, i, e, x.i, x.e)
		}
	}
	for _, l := range notTrees() {
		states := make([]api.Synced, len(l))
		for i := range states {
			states[i].Slot = -1
		}
		if s, i, e := timesync.Run(states, l, nil); len(s) > 0 || i != -1 || e != api.ErrArg {
			t.Errorf("%v: %v %d %v", l, s, i, e)
		}
	}
	for _, w := range wrong() {
		if s, i, e := timesync.Run([]api.Synced{st(0, -1, 0), w}, []int{-1, 0}, []api.Sync{{Node: 9}}); len(s) > 0 || i != -1 || e != api.ErrArg {
			t.Errorf("%v: %v %d %v", w, s, i, e)
		}
	}
}

// P10.3: the greatest difference of clocks.
func TestSpread(t *testing.T) {
	far32 := make([]api.Synced, api.MaxNodes)
	for i := range far32 {
		far32[i] = st(i*i, -1, 0)
	}
	for _, x := range []struct {
		l       []api.Synced
		t, want int
		e       api.Errno
	}{
		{nil, 0, 0, api.OK}, {[]api.Synced{}, api.MaxTime, 0, api.OK}, {[]api.Synced{st(9, -1, 0)}, 77, 0, api.OK}, {[]api.Synced{st(9, -1, 0), st(4, 3, 1)}, 77, 5, api.OK}, {[]api.Synced{st(4, -1, 0), st(9, 3, 1)}, 77, 5, api.OK}, {[]api.Synced{st(4, -1, 0), st(9, 3, 1), st(-3, 3, 1), st(5, 0, 9)}, 0, 12, api.OK}, {[]api.Synced{st(4, -1, 0), st(4, 3, 1)}, 0, 0, api.OK}, {[]api.Synced{st(-9, -1, 0), st(-4, 3, 1)}, 0, 5, api.OK}, {[]api.Synced{st(20, -1, 0), st(40, 3, 1), st(30, 3, 1)}, 0, 20, api.OK},
		{[]api.Synced{fresh(cl(0, 100000)), fresh(cl(0, -100000))}, 10000, 2, api.OK}, {[]api.Synced{fresh(cl(0, 100000)), fresh(cl(2, -100000))}, 10000, 0, api.OK}, {[]api.Synced{fresh(cl(0, 100000)), fresh(cl(2, -100000))}, 0, 2, api.OK}, {[]api.Synced{st(far, -1, 0), st(-far, -1, 0)}, api.MaxTime, 2 * far, api.OK}, {far32, 5, 961, api.OK},
		{append(far32[:32:32], st(0, -1, 0)), 5, 0, api.ErrArg}, {make([]api.Synced, 33), -1, 0, api.ErrArg}, {[]api.Synced{st(0, -1, 0), st(0, -1, 1)}, 5, 0, api.ErrArg}, {[]api.Synced{{}}, -1, 0, api.ErrArg}, {nil, -1, 0, api.ErrRange}, {nil, api.MaxTime + 1, 0, api.ErrRange}, {[]api.Synced{st(0, -1, 0)}, -1, 0, api.ErrRange}, {[]api.Synced{st(0, -1, 0), st(7, -1, 0)}, api.MaxTime + 1, 0, api.ErrRange},
	} {
		if n, e := timesync.Spread(x.l, x.t); n != x.want || e != x.e {
			t.Errorf("%v at %d: %d %v", x.l, x.t, n, e)
		}
	}
}

// randomTree returns the parents of a random tree of n nodes, in which each parent comes before its children.
func randomTree(roll func(int) int, n int) []int {
	l := []int{-1}
	for i := 1; i < n; i++ {
		l = append(l, roll(i-1))
		if roll(1) == 0 {
			l[i] = i - 1
		}
	}
	return l
}

// randomStates returns states of clocks that were never corrected, and show more than 0 at the time 0 by no more than 2000.
func randomStates(roll func(int) int, n, drift int) []api.Synced {
	var l []api.Synced
	for range n {
		l = append(l, fresh(cl(roll(4000)-2000, roll(2*drift)-drift)))
	}
	return l
}

// P10.2, P10.4: each correction gives what Hear or Acked give by what the clocks say, and changes one state alone; then a node differs from its time parent by at most 1 at the time at which the frame was sent.
func TestCorrections(t *testing.T) {
	roll := random(2)
	for range 500 {
		n := 2 + roll(6)
		parents, states := randomTree(roll, n), randomStates(roll, n, api.MaxDrift)
		slot := roll(3)
		for range 20 {
			slot += 1 + roll(50)
			step := api.Sync{Node: 1 + roll(n-2), Slot: slot, Acked: roll(1) == 0}
			parent := states[parents[step.Node]].Clock
			own := states[step.Node]
			at, e := clock.Send(parent, slot)
			want, f := timesync.Hear(own, slot, at)
			if step.Acked {
				at, e = clock.Send(own.Clock, slot)
				want, f = timesync.Acked(own, slot, show(parent, at)-slot*10000-2120)
			}
			after, i, g := timesync.Run(states, parents, []api.Sync{step})
			if e != api.OK || f != api.OK || g != api.OK || i != -1 {
				t.Fatal(e, f, g, i)
			}
			for j := range states {
				if j != step.Node && after[j] != states[j] || j == step.Node && after[j] != want {
					t.Fatalf("%v behind %v: node %d is %v", states, step, j, after[j])
				}
			}
			if d := show(after[step.Node].Clock, at) - show(parent, at); !within(d, -1, 1) {
				t.Fatalf("%v of %v and %v: %d apart at %d", step, own, parent, d, at)
			}
			states = after
		}
	}
}

// all returns corrections of all nodes in one slot, in the order of their depths.
func all(parents []int, slot int, isAcked func() bool) []api.Sync {
	var l []api.Sync
	for i := 1; i < len(parents); i++ {
		l = append(l, api.Sync{Node: i, Slot: slot, Acked: isAcked()})
	}
	depths, _ := timesync.Depths(parents)
	slices.SortStableFunc(l, func(a, b api.Sync) int { return depths[a.Node] - depths[b.Node] })
	return l
}

// P10.4: behind corrections of all nodes in one slot, no two clocks differ by more than the sum of their depths, and the growth since.
func TestSpreadBehindCorrections(t *testing.T) {
	roll := random(3)
	for range 500 {
		n := 2 + roll(10)
		parents, states := randomTree(roll, n), randomStates(roll, n, api.MaxDrift)
		slot := 2 + roll(400)
		steps := all(parents, slot, func() bool { return roll(1) == 0 })
		first, last := math.MaxInt, 0
		for _, step := range steps {
			sender := step.Node
			if !step.Acked {
				sender = parents[step.Node]
			}
			at, e := clock.Send(states[sender].Clock, slot)
			next, _, f := timesync.Run(states, parents, []api.Sync{step})
			if e != api.OK || f != api.OK {
				t.Fatal(e, f)
			}
			first, last, states = min(first, at), max(last, at), next
		}
		depths, _ := timesync.Depths(parents)
		growth, e := guard.Growth(last-first, api.MaxDrift)
		if e != api.OK {
			t.Fatal(e)
		}
		for i := range states {
			for j := range states {
				d := show(states[i].Clock, last) - show(states[j].Clock, last)
				if sum := depths[i] + depths[j]; d > sum*(1+growth) {
					t.Fatalf("%v of %v: %d and %d are %d apart", states, parents, i, j, d)
				}
			}
		}
	}
}

// P10.4, P3: whoever was corrected lately enough for the spread of the depths sends frames that fit.
func TestFramesFit(t *testing.T) {
	roll := random(4)
	for range 500 {
		n, drift := 2+roll(10), 1+roll(api.MaxDrift-1)
		if roll(1) == 0 {
			drift = api.MaxDrift
		}
		parents, states := randomTree(roll, n), randomStates(roll, n, drift)
		for i := range states {
			if roll(1) == 0 {
				states[i].Clock.Drift = drift * (1 - 2*roll(1))
			}
		}
		slot := 2 + roll(400)
		l, _, e := timesync.Run(states, parents, all(parents, slot, func() bool { return roll(3) == 0 }))
		if e != api.OK {
			t.Fatal(e)
		}
		depths, _ := timesync.Depths(parents)
		for i := range l {
			for j := range l {
				most, e := guard.Slots(depths[i], depths[j], drift)
				if e != api.OK {
					t.Fatal(e)
				}
				for _, k := range []int{most, 1 + roll(most-1), 1} {
					if ok, e := guard.Fits(l[i].Clock, l[j].Clock, slot+k); !ok || e != api.OK {
						t.Fatalf("%v to %v, %d slots later: %v %v", l[i], l[j], k, ok, e)
					}
				}
			}
		}
	}
}

// P1: arguments are not modified, and results are new memory.
func TestArgumentsStay(t *testing.T) {
	l := []api.Synced{st(0, -1, 0), st(40, -1, 0)}
	parents := []int{-1, 0}
	steps := []api.Sync{{Node: 1, Slot: 1}}
	a, _, e := timesync.Run(l, parents, steps)
	d, f := timesync.Depths(parents)
	n, g := timesync.Spread(l, 5)
	if e != api.OK || f != api.OK || g != api.OK || n != 40 {
		t.Fatal(e, f, g, n)
	}
	if !slices.Equal(l, []api.Synced{st(0, -1, 0), st(40, -1, 0)}) || !slices.Equal(parents, []int{-1, 0}) || !reflect.DeepEqual(steps, []api.Sync{{Node: 1, Slot: 1}}) {
		t.Error(l, parents, steps)
	}
	a[0], d[0] = st(77, 7, 7), 77
	if l[0] != st(0, -1, 0) || parents[0] != -1 {
		t.Error(l, parents)
	}
	b, _, e := timesync.Run(l, parents, nil)
	if e != api.OK {
		t.Fatal(e)
	}
	b[1] = st(77, 7, 7)
	if l[1] != st(40, -1, 0) {
		t.Error(l)
	}
}

// P1: no call panics, whatever numbers there are, and with an error all else is zero.
func TestAllArguments(t *testing.T) {
	numbers := append([]int{-5000, -1, 0, 1, 4999, api.MaxRun + 1, lastSlot + 1, far, far + 1}, extremes...)
	for _, a := range numbers {
		for _, b := range numbers {
			for _, c := range numbers {
				s := api.Synced{Clock: cl(a, b), Slot: b, Count: c}
				for _, n := range numbers {
					heard, e := timesync.Hear(s, n, a)
					acked, f := timesync.Acked(s, n, a)
					if e != api.OK && heard != (api.Synced{}) || f != api.OK && acked != (api.Synced{}) {
						t.Errorf("%v with %d: %v %v", s, n, heard, acked)
					}
					if e == api.OK && timesync.Check(heard) != api.OK || f == api.OK && timesync.Check(acked) != api.OK {
						t.Errorf("%v with %d: %v %v", s, n, heard, acked)
					}
				}
				timesync.Synchronized(s, a, c)
				if l, i, e := timesync.Run([]api.Synced{fresh(cl(0, 0)), s}, []int{-1, 0}, []api.Sync{{Node: a, Slot: b, Acked: c > 0}}); e != api.OK && len(l) > 0 || e == api.OK && i != -1 {
					t.Errorf("%v: %v %d %v", s, l, i, e)
				}
				if n, e := timesync.Spread([]api.Synced{s, s}, c); e != api.OK && n != 0 {
					t.Errorf("%v: %d", s, n)
				}
				if n, e := timesync.Measure(cl(a, b), b, c); e != api.OK && n != 0 {
					t.Errorf("%v: %d", s, n)
				}
				timesync.Depths([]int{a, b, c})
			}
		}
	}
}
