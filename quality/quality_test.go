package quality_test

import (
	"math"
	"math/big"
	"reflect"
	"slices"
	"testing"

	"hopmesh/api"
	"hopmesh/hop"
	"hopmesh/quality"
)

const most = 1 << 30 // attempts, and rounds

// extremes are numbers that nothing allows.
var extremes = []int{math.MinInt, math.MinInt + 1, -1 << 42, 1 << 42, math.MaxInt - 1, math.MaxInt}

// holds are all numbers of rounds for which a channel can be blacklisted.
var holds = []int{1, 2, 4, 8, 16, 32, 64}

// co returns counts.
func co(attempts, acked int) api.Counts { return api.Counts{Attempts: attempts, Acked: acked} }

// state is what a learner has of one channel.
type state struct{ channel, attempts, acked, until, hold int }

// le returns a learner in a round, with the states of some channels.
func le(round int, states ...state) api.Learner {
	l := api.Learner{Round: round, Counts: make([]api.Counts, 16), Until: make([]int, 16), Hold: make([]int, 16)}
	for _, s := range states {
		l.Counts[s.channel] = co(s.attempts, s.acked)
		l.Until[s.channel] = s.until
		l.Hold[s.channel] = s.hold
	}
	return l
}

// isZero reports whether a learner is the zero value.
func isZero(l api.Learner) bool {
	return l.Round == 0 && len(l.Counts) == 0 && len(l.Until) == 0 && len(l.Hold) == 0
}

// wrongCounts returns counts that are not valid.
func wrongCounts() []api.Counts {
	l := []api.Counts{co(-1, 0), co(-1, -1), co(0, -1), co(0, 1), co(5, 6), co(5, -1), co(most, most+1), co(most+1, 0), co(most+1, most), co(most+1, most+1)}
	for _, n := range extremes {
		l = append(l, co(n, 0), co(n, n), co(5, n), co(n, 5), co(0, n))
	}
	return l
}

// wrongStates returns states that no channel of a learner has in round 7.
func wrongStates() []state {
	l := []state{
		{until: 9}, {until: 8}, {until: -1}, {until: -1, hold: 1}, {until: 1, hold: 1}, {until: 6, hold: 1}, {until: 7, hold: 1}, {until: 72, hold: 1}, {until: 72, hold: 64}, {until: 73, hold: 64}, {until: 71}, {until: 72},
		{hold: -1}, {hold: 3}, {hold: 5}, {hold: 6}, {hold: 7}, {hold: 12}, {hold: 63}, {hold: 65}, {hold: 128}, {hold: -2}, {hold: -64}, {until: 9, hold: 3}, {until: 9, hold: -1}, {until: 9, hold: 128}, {until: 9, hold: 65},
	}
	for _, n := range extremes {
		l = append(l, state{until: n}, state{until: n, hold: 1}, state{hold: n}, state{until: 9, hold: n})
	}
	for _, c := range wrongCounts() {
		l = append(l, state{attempts: c.Attempts, acked: c.Acked})
	}
	return l
}

// wrong returns learners that are not valid.
func wrong() []api.Learner {
	l := []api.Learner{{}, {Round: 3}, le(-1), le(most + 1), le(-7), le(0, state{until: 65, hold: 64}), le(0, state{until: 0, hold: 3}), le(most, state{until: most, hold: 1}), le(most, state{until: most + 65, hold: 1})}
	for _, n := range extremes {
		l = append(l, le(n), le(n, state{until: n + 1, hold: 1}))
	}
	for i, s := range wrongStates() {
		s.channel = i % 16
		l = append(l, le(7, s))
		s.channel = 15
		l = append(l, le(7, s))
	}
	for _, count := range []int{0, 1, 15, 17, 32} {
		counts, until, hold := le(0), le(0), le(0)
		counts.Counts = make([]api.Counts, count)
		until.Until = make([]int, count)
		hold.Hold = make([]int, count)
		all := api.Learner{Counts: counts.Counts, Until: until.Until, Hold: hold.Hold}
		l = append(l, counts, until, hold, all)
	}
	return l
}

// random returns a function that gives numbers from 0 to most, which follow from a seed.
func random(seed uint64) func(most int) int {
	return func(most int) int {
		seed = seed*6364136223846793005 + 1442695040888963407
		return int(seed>>16) % (most + 1)
	}
}

// someLearner returns a valid learner, with few attempts, so that rates are often equal.
func someLearner(next func(int) int) api.Learner {
	l := le(next(200))
	for c := range 16 {
		attempts := next(12)
		l.Counts[c] = co(attempts, next(attempts))
		if next(2) == 0 {
			l.Hold[c] = holds[next(len(holds)-1)]
			if next(1) == 0 {
				l.Until[c] = l.Round + 1 + next(63)
			}
		}
	}
	return l
}

// ratio returns the rate of counts as a fraction.
func ratio(c api.Counts) *big.Rat { return big.NewRat(int64(c.Acked), max(int64(c.Attempts), 1)) }

// P12.1: which counts are valid, and what follows from those that are not.
func TestCheck(t *testing.T) {
	for _, c := range []api.Counts{co(0, 0), co(1, 0), co(1, 1), co(5, 3), co(most, 0), co(most, most), co(most, most-1), co(most-1, 7)} {
		if e := quality.Check(c); e != api.OK {
			t.Errorf("%v: %v", c, e)
		}
	}
	for _, c := range wrongCounts() {
		if e := quality.Check(c); e != api.ErrArg {
			t.Errorf("%v: %v", c, e)
		}
		if n, e := quality.Rate(c); n != 0 || e != api.ErrArg {
			t.Errorf("%v: %d %v", c, n, e)
		}
		if n, e := quality.Cost(c); n != 0 || e != api.ErrArg {
			t.Errorf("%v: %d %v", c, n, e)
		}
		for _, acked := range []bool{false, true} {
			if n, e := quality.Add(c, acked); n != (api.Counts{}) || e != api.ErrArg {
				t.Errorf("%v: %v %v", c, n, e)
			}
		}
		for _, other := range []api.Counts{co(0, 0), co(1, 1), co(5, 3), c} {
			if quality.Less(c, other) || quality.Less(other, c) {
				t.Errorf("%v and %v", c, other)
			}
		}
	}
}

// P12.1: one more attempt.
func TestAdd(t *testing.T) {
	for _, x := range []struct {
		c     api.Counts
		acked bool
		want  api.Counts
		e     api.Errno
	}{
		{co(0, 0), false, co(1, 0), api.OK}, {co(0, 0), true, co(1, 1), api.OK}, {co(5, 3), false, co(6, 3), api.OK}, {co(5, 3), true, co(6, 4), api.OK}, {co(most-1, most-1), true, co(most, most), api.OK}, {co(most-1, 0), false, co(most, 0), api.OK},
		{co(most, 0), false, co(0, 0), api.ErrFull}, {co(most, 0), true, co(0, 0), api.ErrFull}, {co(most, most), true, co(0, 0), api.ErrFull}, {co(most, most), false, co(0, 0), api.ErrFull},
	} {
		if c, e := quality.Add(x.c, x.acked); c != x.want || e != x.e {
			t.Errorf("%v: %v %v", x, c, e)
		}
	}
}

// P12.1: rates and costs.
func TestRateAndCost(t *testing.T) {
	for _, x := range []struct {
		c          api.Counts
		rate, cost int
	}{
		// the document's example
		{co(4, 3), 750, 170},
		{co(0, 0), 0, 65535}, {co(1, 0), 0, 65535}, {co(1, 1), 1000, 128}, {co(most, most), 1000, 128}, {co(most, 0), 0, 65535}, {co(3, 2), 666, 192}, {co(3, 1), 333, 384}, {co(1000, 999), 999, 128}, {co(1001, 1), 0, 65535}, {co(1000, 1), 1, 65535}, {co(most, most-1), 999, 128}, {co(128, 127), 992, 129}, {co(129, 128), 992, 129}, {co(130, 129), 992, 128},
		// 128 * 511 = 65408, 128 * 512 = 65536, 128 * 511.9921875 = 65535
		{co(511, 1), 1, 65408}, {co(512, 1), 1, 65535}, {co(513, 1), 1, 65535}, {co(65535, 128), 1, 65535}, {co(65534, 128), 1, 65534}, {co(65536, 128), 1, 65535}, {co(65537, 128), 1, 65535}, {co(131069, 256), 1, 65534}, {co(131070, 256), 1, 65535}, {co(131071, 256), 1, 65535}, {co(most, 1), 0, 65535}, {co(most, 1<<21), 1, 65535}, {co(most, 1<<21+32), 1, 65535}, {co(most, 1<<21+33), 1, 65534},
	} {
		if n, e := quality.Rate(x.c); n != x.rate || e != api.OK {
			t.Errorf("%v: rate %d %v", x, n, e)
		}
		if n, e := quality.Cost(x.c); n != x.cost || e != api.OK {
			t.Errorf("%v: cost %d %v", x, n, e)
		}
	}
}

// P12.1: rates are compared exactly.
func TestLess(t *testing.T) {
	for _, x := range []struct {
		a, b api.Counts
		want bool
	}{
		{co(4, 1), co(4, 2), true}, {co(4, 2), co(4, 1), false}, {co(4, 2), co(2, 1), false}, {co(2, 1), co(4, 2), false}, {co(6, 4), co(9, 6), false}, {co(9, 6), co(6, 4), false}, {co(3, 1), co(2, 1), true}, {co(5, 1), co(4, 1), true}, {co(4, 1), co(5, 1), false},
		// rates that are equal in thousandths
		{co(3000, 1000), co(2999, 1000), true}, {co(2999, 1000), co(3000, 1000), false}, {co(most, most-1), co(most, most), true}, {co(most, most-2), co(most-1, most-2), true}, {co(most-1, most-2), co(most, most-1), true}, {co(most, most-1), co(most-1, most-2), false}, {co(most, most), co(1, 1), false}, {co(1, 1), co(most, most), false}, {co(most, 1), co(most-1, 1), true},
		// without attempts
		{co(0, 0), co(0, 0), false}, {co(0, 0), co(5, 0), false}, {co(5, 0), co(0, 0), false}, {co(0, 0), co(most, 1), true}, {co(most, 1), co(0, 0), false}, {co(0, 0), co(1, 1), true}, {co(1, 1), co(0, 0), false}, {co(7, 0), co(5, 0), false}, {co(5, 0), co(7, 0), false},
	} {
		if got := quality.Less(x.a, x.b); got != x.want {
			t.Errorf("%v and %v: %v", x.a, x.b, got)
		}
	}
}

// P12.1: rates, costs and comparisons are those of fractions.
func TestRandomCounts(t *testing.T) {
	next := random(1)
	some := func() api.Counts {
		attempts := next([]int{0, 5, 30, 1000, most}[next(4)])
		return co(attempts, next(attempts))
	}
	for range 20000 {
		a, b := some(), some()
		if got, want := quality.Less(a, b), ratio(a).Cmp(ratio(b)) < 0; got != want {
			t.Fatalf("%v and %v: %v", a, b, got)
		}
		n, e := quality.Rate(a)
		// n / 1000 <= rate < (n + 1) / 1000
		if e != api.OK || big.NewRat(int64(n), 1000).Cmp(ratio(a)) > 0 || big.NewRat(int64(n)+1, 1000).Cmp(ratio(a)) <= 0 {
			t.Fatalf("%v: rate %d %v", a, n, e)
		}
		cost, e := quality.Cost(a)
		want := 65535
		if a.Acked > 0 {
			// The greatest whole number of which the product is not too large.
			want = 0
			for step := 1 << 15; step > 0; step /= 2 {
				if (want+step)*a.Acked <= 128*a.Attempts {
					want += step
				}
			}
		}
		if e != api.OK || cost != want {
			t.Fatalf("%v: cost %d %v, want %d", a, cost, e, want)
		}
	}
}

// P12.2: which learners are valid.
func TestValid(t *testing.T) {
	l := []api.Learner{
		le(0), le(most), le(5), le(0, state{3, most, most, 1, 1}), le(0, state{15, 5, 3, 64, 64}), le(0, state{0, 5, 0, 2, 1}), le(7, state{9, 0, 0, 8, 1}), le(7, state{9, 0, 0, 71, 1}), le(7, state{9, 0, 0, 70, 64}), le(most, state{0, 0, 0, most + 1, 1}), le(most, state{0, 0, 0, most + 64, 64}), le(7, state{0, 1, 1, 9, 2}, state{15, 1, 0, 30, 16}),
	}
	for _, hold := range append([]int{0}, holds...) {
		l = append(l, le(7, state{3, 0, 0, 0, hold}))
		if hold > 0 {
			l = append(l, le(7, state{3, 0, 0, 8, hold}), le(7, state{3, 0, 0, 71, hold}))
		}
	}
	for _, x := range l {
		if e := quality.Valid(x); e != api.OK {
			t.Errorf("%v: %v", x, e)
		}
	}
	for _, x := range wrong() {
		if e := quality.Valid(x); e != api.ErrArg {
			t.Errorf("%v: %v", x, e)
		}
	}
}

// P12.2: every Hold and every Until, in some rounds.
func TestValidHolds(t *testing.T) {
	for _, round := range []int{0, 1, 7, 64, most - 1, most} {
		for hold := -2; hold <= 130; hold++ {
			untils := []int{-1, 0, 1, round - 1, round, round + 1, round + 2, round + 63, round + 64, round + 65}
			for _, until := range untils {
				allowed := hold == 0 || slices.Contains(holds, hold)
				want := api.ErrArg
				if allowed && (until == 0 || hold != 0 && until > round && until <= round+64) {
					want = api.OK
				}
				if e := quality.Valid(le(round, state{6, 0, 0, until, hold})); e != want {
					t.Errorf("round %d, hold %d, until %d: %v", round, hold, until, e)
				}
			}
		}
	}
}

// P12.2, P12.3: a learner that is not valid is named before all other errors.
func TestWrongLearners(t *testing.T) {
	right := le(7)
	for _, l := range wrong() {
		for _, n := range []int{-1, 0, 16, math.MaxInt} {
			if x, e := quality.Note(l, n, true); !isZero(x) || e != api.ErrArg {
				t.Errorf("%v: %v %v", l, x, e)
			}
			if x, e := quality.Close(l, 1, n, n, 1); !isZero(x) || e != api.ErrArg {
				t.Errorf("%v: %v %v", l, x, e)
			}
		}
		if x, e := quality.Black(l); len(x) > 0 || e != api.ErrArg {
			t.Errorf("%v: %v %v", l, x, e)
		}
		for _, pair := range [][2]api.Learner{{l, right}, {right, l}, {l, l}} {
			if x, e := quality.Merge(pair[0], pair[1]); !isZero(x) || e != api.ErrArg {
				t.Errorf("%v: %v %v", pair, x, e)
			}
		}
	}
}

// P12.2: the learner at first.
func TestNew(t *testing.T) {
	l := quality.New()
	black, e := quality.Black(l)
	if !reflect.DeepEqual(l, le(0)) || quality.Valid(l) != api.OK || len(black) > 0 || e != api.OK {
		t.Error(l, black, e)
	}
	l.Counts[3], l.Until[3], l.Hold[3] = co(1, 1), 5, 1
	if again := quality.New(); !reflect.DeepEqual(again, le(0)) {
		t.Error(again)
	}
}

// P12.2: one more attempt on a channel.
func TestNote(t *testing.T) {
	full := le(7, state{3, most, 5, 0, 0}, state{4, most - 1, 5, 0, 0})
	for _, x := range []struct {
		l       api.Learner
		channel int
		acked   bool
		want    api.Learner
		e       api.Errno
	}{
		{le(0), 0, true, le(0, state{0, 1, 1, 0, 0}), api.OK}, {le(0), 15, false, le(0, state{15, 1, 0, 0, 0}), api.OK}, {le(7, state{3, 5, 2, 0, 4}), 3, true, le(7, state{3, 6, 3, 0, 4}), api.OK}, {le(7, state{3, 5, 2, 0, 4}), 4, true, le(7, state{3, 5, 2, 0, 4}, state{4, 1, 1, 0, 0}), api.OK}, {le(most), 2, false, le(most, state{2, 1, 0, 0, 0}), api.OK},
		// also of a blacklisted channel
		{le(7, state{3, 5, 2, 9, 4}), 3, false, le(7, state{3, 6, 2, 9, 4}), api.OK},
		{full, 4, true, le(7, state{3, most, 5, 0, 0}, state{4, most, 6, 0, 0}), api.OK}, {full, 5, false, le(7, state{3, most, 5, 0, 0}, state{4, most - 1, 5, 0, 0}, state{5, 1, 0, 0, 0}), api.OK},
		{full, 3, true, api.Learner{}, api.ErrFull}, {full, 3, false, api.Learner{}, api.ErrFull},
		{le(0), -1, true, api.Learner{}, api.ErrRange}, {le(0), 16, true, api.Learner{}, api.ErrRange}, {full, 16, false, api.Learner{}, api.ErrRange}, {full, -1, false, api.Learner{}, api.ErrRange},
	} {
		l, e := quality.Note(x.l, x.channel, x.acked)
		if e != x.e || e == api.OK && !reflect.DeepEqual(l, x.want) || e != api.OK && !isZero(l) {
			t.Errorf("%v: %v %v", x, l, e)
		}
	}
	for _, n := range extremes {
		if l, e := quality.Note(full, n, true); !isZero(l) || e != api.ErrRange {
			t.Errorf("%d: %v %v", n, l, e)
		}
	}
}

// P12.2: the blacklisted channels.
func TestBlack(t *testing.T) {
	for _, x := range []struct {
		l    api.Learner
		want []int
	}{
		{le(0), nil}, {le(7, state{3, 5, 0, 0, 64}), nil}, {le(7, state{15, 0, 0, 8, 1}, state{0, 0, 0, 71, 1}, state{3, 0, 0, 0, 1}, state{6, 9, 9, 30, 4}), []int{0, 6, 15}},
	} {
		if l, e := quality.Black(x.l); e != api.OK || !slices.Equal(l, x.want) {
			t.Errorf("%v: %v %v", x.l, l, e)
		}
	}
	l := le(7)
	for c := range 16 {
		l.Until[c], l.Hold[c] = 8+c, 1
	}
	if black, e := quality.Black(l); e != api.OK || !slices.Equal(black, []int{0, 1, 2, 3, 4, 5, 6, 7, 8, 9, 10, 11, 12, 13, 14, 15}) {
		t.Error(black, e)
	}
}

// P12.2: rounds of a single channel.
func TestClose(t *testing.T) {
	for _, x := range []struct {
		round        int
		before       state
		window       int
		low, high    int
		until, holds int
	}{
		// the document's example
		{0, state{3, 4, 1, 0, 0}, 4, 500, 900, 2, 1}, {2, state{3, 4, 1, 0, 1}, 4, 500, 900, 5, 2},
		// attempts of exactly Window, and one less
		{7, state{3, 5, 0, 0, 0}, 5, 500, 900, 9, 1}, {7, state{3, 4, 0, 0, 0}, 5, 500, 900, 0, 0}, {7, state{3, 1, 0, 0, 0}, 1, 500, 900, 9, 1}, {7, state{3, 0, 0, 0, 0}, 1, 1000, 1000, 0, 0}, {7, state{3, 1000, 0, 0, 0}, 1000, 500, 900, 9, 1}, {7, state{3, 999, 0, 0, 0}, 1000, 500, 900, 0, 0},
		// rates of exactly Low, and less
		{7, state{3, 4, 2, 0, 0}, 4, 500, 900, 0, 0}, {7, state{3, 4, 2, 0, 0}, 4, 501, 900, 9, 1}, {7, state{3, 1000, 499, 0, 0}, 4, 500, 900, 9, 1}, {7, state{3, 2000, 999, 0, 0}, 4, 500, 900, 9, 1}, {7, state{3, 2000, 999, 0, 0}, 4, 499, 900, 0, 0}, {7, state{3, 4, 0, 0, 0}, 4, 0, 900, 0, 0}, {7, state{3, 4, 0, 0, 0}, 4, 1, 900, 9, 1}, {7, state{3, 4, 4, 0, 0}, 4, 1000, 1000, 0, 0}, {7, state{3, most, most - 1, 0, 0}, 4, 1000, 1000, 9, 1},
		// rates of exactly High, and less
		{7, state{3, 10, 9, 0, 8}, 4, 500, 900, 0, 0}, {7, state{3, 1000, 899, 0, 8}, 4, 500, 900, 0, 8}, {7, state{3, 1001, 900, 0, 8}, 4, 500, 900, 0, 8}, {7, state{3, 1000, 900, 0, 8}, 4, 500, 900, 0, 0}, {7, state{3, 10, 9, 0, 8}, 11, 500, 900, 0, 8}, {7, state{3, 10, 9, 0, 8}, 10, 500, 900, 0, 0}, {7, state{3, 4, 0, 0, 8}, 4, 0, 0, 0, 0}, {7, state{3, 0, 0, 0, 8}, 1, 0, 0, 0, 8}, {7, state{3, 4, 4, 0, 64}, 4, 1000, 1000, 0, 0},
		// Low equal to High: a rate is one or the other
		{7, state{3, 4, 2, 0, 8}, 4, 500, 500, 0, 0}, {7, state{3, 1000, 499, 0, 8}, 4, 500, 500, 7 + 1 + 16, 16},
		// doubled Holds
		{7, state{3, 4, 0, 0, 1}, 4, 500, 900, 10, 2}, {7, state{3, 4, 0, 0, 2}, 4, 500, 900, 12, 4}, {7, state{3, 4, 0, 0, 16}, 4, 500, 900, 40, 32}, {7, state{3, 4, 0, 0, 32}, 4, 500, 900, 72, 64}, {7, state{3, 4, 0, 0, 64}, 4, 500, 900, 72, 64}, {most - 1, state{3, 4, 0, 0, 64}, 4, 500, 900, most + 64, 64},
		// blacklisted channels are neither bad nor proved
		{7, state{3, 4, 0, 9, 2}, 4, 500, 900, 9, 2}, {7, state{3, 4, 4, 9, 2}, 4, 500, 900, 9, 2}, {7, state{3, 4, 0, 71, 64}, 4, 500, 900, 71, 64},
		// channels that are tried again in the round that begins
		{7, state{3, 0, 0, 8, 2}, 4, 500, 900, 0, 2}, {7, state{3, 4, 0, 8, 2}, 4, 500, 900, 0, 2}, {7, state{3, 4, 4, 8, 2}, 4, 500, 900, 0, 2}, {7, state{3, 0, 0, 9, 2}, 4, 500, 900, 9, 2}, {0, state{3, 0, 0, 1, 1}, 4, 500, 900, 0, 1}, {most - 1, state{3, 0, 0, most, 1}, 4, 500, 900, 0, 1}, {most - 1, state{3, 0, 0, most + 1, 1}, 4, 500, 900, most + 1, 1},
	} {
		want := le(x.round+1, state{x.before.channel, 0, 0, x.until, x.holds})
		if l, e := quality.Close(le(x.round, x.before), x.window, x.low, x.high, 1); e != api.OK || !reflect.DeepEqual(l, want) {
			t.Errorf("%v: %v %v", x, l, e)
		}
	}
}

// spread returns a learner in round 7 with the same counts on all channels but some.
func spread(c api.Counts, states ...state) api.Learner {
	l := le(7, states...)
	for i := range l.Counts {
		if l.Counts[i] == co(0, 0) {
			l.Counts[i] = c
		}
	}
	return l
}

// P12.2: more bad channels than may be blacklisted.
func TestCloseLeast(t *testing.T) {
	equal := spread(co(4, 1))
	// the rates 2 / 5, 1 / 5, 3 / 8, 1 / 5, 2 / 10, 3 / 7, 999 / 2500, 1 / 1 on some channels
	mixed := le(7, state{2, 5, 2, 0, 0}, state{3, 5, 1, 0, 0}, state{5, 8, 3, 0, 0}, state{8, 5, 1, 0, 0}, state{9, 10, 2, 0, 0}, state{11, 7, 3, 0, 0}, state{12, 2500, 999, 0, 0}, state{14, 1, 1, 0, 0})
	// all others are blacklisted already
	few := le(7, state{2, 5, 2, 0, 0}, state{3, 5, 1, 0, 0}, state{5, 8, 3, 0, 0})
	for _, c := range []int{0, 1, 4, 6, 7, 8, 9, 10, 11, 12, 13, 14, 15} {
		few.Until[c], few.Hold[c] = 50, 64
	}
	for _, x := range []struct {
		l     api.Learner
		least int
		want  []int
	}{
		// of equal rates that with the lesser number first
		{equal, 16, nil}, {equal, 15, []int{0}}, {equal, 14, []int{0, 1}}, {equal, 10, []int{0, 1, 2, 3, 4, 5}}, {equal, 1, []int{0, 1, 2, 3, 4, 5, 6, 7, 8, 9, 10, 11, 12, 13, 14}},
		{spread(co(4, 1), state{9, 8, 1, 0, 0}), 15, []int{9}}, {spread(co(4, 1), state{9, 8, 1, 0, 0}), 14, []int{0, 9}}, {spread(co(4, 1), state{0, 8, 2, 0, 0}, state{1, 12, 3, 0, 0}), 14, []int{0, 1}}, {spread(co(4, 1), state{0, 1000, 251, 0, 0}), 14, []int{1, 2}}, {spread(co(4, 1), state{0, 100000, 25001, 0, 0}), 15, []int{1}}, {spread(co(4, 1), state{15, 100000, 24999, 0, 0}), 15, []int{15}},
		// 1 / 5 and 2 / 10 are equal; 3 / 8, 999 / 2500, 2 / 5, 3 / 7 follow
		{mixed, 16, nil}, {mixed, 15, []int{3}}, {mixed, 14, []int{3, 8}}, {mixed, 13, []int{3, 8, 9}}, {mixed, 12, []int{3, 5, 8, 9}}, {mixed, 11, []int{3, 5, 8, 9, 12}}, {mixed, 10, []int{2, 3, 5, 8, 9, 12}}, {mixed, 9, []int{2, 3, 5, 8, 9, 11, 12}}, {mixed, 8, []int{2, 3, 5, 8, 9, 11, 12}}, {mixed, 1, []int{2, 3, 5, 8, 9, 11, 12}},
		// those that were blacklisted before do not count as staying
		{few, 1, []int{3, 5}}, {few, 2, []int{3}}, {few, 3, nil}, {few, 4, nil}, {few, 16, nil},
	} {
		next, e := quality.Close(x.l, 1, 500, 900, x.least)
		if e != api.OK {
			t.Fatal(e)
		}
		for c := range 16 {
			want := x.l.Until[c]
			if slices.Contains(x.want, c) {
				want = 9
			}
			if next.Until[c] != want {
				t.Errorf("%v with %d: channel %d until %d, want %d", x.l, x.least, c, next.Until[c], want)
			}
		}
	}
	// a learner all of whose channels are blacklisted
	all := le(7)
	for c := range 16 {
		all.Counts[c], all.Until[c], all.Hold[c] = co(4, 0), 9+c, 16
	}
	want := le(8)
	copy(want.Until, all.Until)
	copy(want.Hold, all.Hold)
	if next, e := quality.Close(all, 1, 500, 900, 1); e != api.OK || !reflect.DeepEqual(next, want) {
		t.Error(next, e)
	}
}

// P12.2: a bad channel that is not blacklisted keeps its Hold.
func TestCloseBadThatStays(t *testing.T) {
	l := spread(co(4, 0), state{14, 4, 1, 0, 32}, state{15, 4, 1, 0, 16})
	next, e := quality.Close(l, 1, 500, 900, 1)
	if e != api.OK || next.Until[15] != 0 || next.Hold[15] != 16 || next.Hold[14] != 64 || next.Until[14] != 72 {
		t.Error(next, e)
	}
}

// P12.2: the bounds of rules, and the order of errors.
func TestCloseErrors(t *testing.T) {
	for _, x := range []struct {
		round, window, low, high, least int
		e                               api.Errno
	}{
		{0, 1, 0, 0, 1, api.OK}, {0, 1000, 1000, 1000, 16, api.OK}, {0, 5, 0, 1000, 8, api.OK}, {most - 1, 5, 500, 900, 8, api.OK}, {0, 5, 500, 500, 8, api.OK},
		{0, 0, 500, 900, 8, api.ErrRange}, {0, -1, 500, 900, 8, api.ErrRange}, {0, 1001, 500, 900, 8, api.ErrRange}, {0, 5, -1, 900, 8, api.ErrRange}, {0, 5, -1, -1, 8, api.ErrRange}, {0, 5, 901, 900, 8, api.ErrRange}, {0, 5, 500, 1001, 8, api.ErrRange}, {0, 5, 1001, 1001, 8, api.ErrRange}, {0, 5, 500, 900, 0, api.ErrRange}, {0, 5, 500, 900, 17, api.ErrRange}, {0, 5, 500, 900, -1, api.ErrRange}, {0, 5, 500, -1, 8, api.ErrRange},
		{most, 5, 500, 900, 8, api.ErrFull}, {most, 1, 0, 0, 1, api.ErrFull}, {most, 0, 500, 900, 8, api.ErrRange}, {most, 5, 500, 900, 17, api.ErrRange}, {most, 5, 901, 900, 8, api.ErrRange},
	} {
		l, e := quality.Close(le(x.round), x.window, x.low, x.high, x.least)
		if e != x.e || e == api.OK && !reflect.DeepEqual(l, le(x.round+1)) || e != api.OK && !isZero(l) {
			t.Errorf("%v: %v %v", x, l, e)
		}
	}
	for _, n := range extremes {
		for _, r := range [][4]int{{n, 500, 900, 8}, {5, n, 900, 8}, {5, 500, n, 8}, {5, 500, 900, n}, {n, n, n, n}, {5, n, n, 8}} {
			if l, e := quality.Close(le(most), r[0], r[1], r[2], r[3]); !isZero(l) || e != api.ErrRange {
				t.Errorf("%v: %v %v", r, l, e)
			}
		}
	}
}

// closed computes the learner behind a round by looking for the worst bad channel again and again.
func closed(l api.Learner, window, low, high, least int) api.Learner {
	next := le(l.Round + 1)
	copy(next.Until, l.Until)
	copy(next.Hold, l.Hold)
	open := 0
	for c := range 16 {
		if l.Until[c] == 0 {
			open++
		}
	}
	counts := func(c int) bool { return l.Until[c] == 0 && l.Counts[c].Attempts >= window }
	// The rate in thousandths is less than a number exactly if the rate itself is.
	less := func(c, n int) bool { return ratio(l.Counts[c]).Cmp(big.NewRat(int64(n), 1000)) < 0 }
	for ; open > least; open-- {
		worst := -1
		for c := range 16 {
			if counts(c) && less(c, low) && next.Until[c] == 0 && (worst < 0 || ratio(l.Counts[c]).Cmp(ratio(l.Counts[worst])) < 0) {
				worst = c
			}
		}
		if worst < 0 {
			break
		}
		switch next.Hold[worst] {
		case 0:
			next.Hold[worst] = 1
		case 64:
		default:
			next.Hold[worst] += next.Hold[worst]
		}
		next.Until[worst] = l.Round + 1 + next.Hold[worst]
	}
	for c := range 16 {
		if counts(c) && !less(c, high) {
			next.Hold[c] = 0
		}
		if next.Until[c] <= next.Round {
			next.Until[c] = 0
		}
	}
	return next
}

// blackAt returns the blacklisted channels of a valid learner.
func blackAt(l api.Learner) []int {
	black, e := quality.Black(l)
	if e != api.OK {
		panic(e)
	}
	return black
}

// P12.2, P12.4: rounds are closed as defined; at least Least channels are not blacklisted behind it, if there were as many before; a channel without attempts is not blacklisted newly.
func TestRandomRounds(t *testing.T) {
	next := random(5)
	for range 5000 {
		l := someLearner(next)
		window, high, least := 1+next(6), next(1000), 1+next(15)
		low := next(high)
		if next(3) == 0 {
			low, high = 500+next(500), 1000
		}
		after, e := quality.Close(l, window, low, high, least)
		if want := closed(l, window, low, high, least); e != api.OK || !reflect.DeepEqual(after, want) {
			t.Fatalf("%v with %d %d %d %d: %v %v, want %v", l, window, low, high, least, after, e, want)
		}
		if quality.Valid(after) != api.OK {
			t.Fatalf("%v: %v", l, after)
		}
		before, behind := 16-len(blackAt(l)), 16-len(blackAt(after))
		if before >= least && behind < least || before < least && behind < before {
			t.Fatalf("%v with %d: %v", l, least, after)
		}
		for c := range 16 {
			if l.Counts[c].Attempts == 0 && l.Until[c] == 0 && after.Until[c] != 0 {
				t.Fatalf("%v: %v", l, after)
			}
		}
	}
}

// P12.2: what stays is what a hopping list without the bad channels has, if their order is that of their rates.
func TestRoundsAndHopping(t *testing.T) {
	for least := 1; least <= 16; least++ {
		l := quality.New()
		var bad, channels []int
		for c := range 16 {
			channels = append(channels, c)
			l.Counts[c] = co(1000, c*17)
			bad = append([]int{c}, bad...)
		}
		after, e := quality.Close(l, 1, 1000, 1000, least)
		stay, f := hop.Without(channels, bad, least)
		kept, g := hop.Without(channels, blackAt(after), 1)
		if e != api.OK || f != api.OK || g != api.OK || !slices.Equal(stay, kept) {
			t.Fatalf("%d: %v %v", least, stay, kept)
		}
	}
}

// P12.4: a blacklisted channel is tried again after at most 64 rounds.
func TestTriedAgain(t *testing.T) {
	next := random(21)
	for range 100 {
		l := someLearner(next)
		since := [16]int{}
		for range 300 {
			for c := range 16 {
				l.Counts[c] = co(3, next(1))
			}
			after, e := quality.Close(l, 1, 900, 900, 1+next(3))
			if e != api.OK {
				t.Fatal(e)
			}
			for c := range 16 {
				since[c]++
				if l.Until[c] == 0 || after.Until[c] == 0 {
					since[c] = 0
				}
				if since[c] >= 64 {
					t.Fatalf("channel %d: %d rounds", c, since[c])
				}
			}
			l = after
		}
	}
	// and not sooner than its Hold says
	l := le(7, state{3, 4, 0, 0, 64})
	for round := range 66 {
		black := blackAt(l)
		if tried := len(black) == 0; tried != (round == 0 || round == 65) {
			t.Errorf("%d: %v", round, black)
		}
		l, _ = quality.Close(l, 4, 500, 900, 1)
	}
}

// P12.2: the example of the document, over some rounds.
func TestExample(t *testing.T) {
	l := quality.New()
	bad := func() {
		for i := range 4 {
			l, _ = quality.Note(l, 6, i == 0)
		}
	}
	shut := func() { l, _ = quality.Close(l, 4, 500, 900, 2) }
	bad()
	shut()
	if l.Round != 1 || l.Until[6] != 2 || l.Hold[6] != 1 || !slices.Equal(blackAt(l), []int{6}) {
		t.Error(l)
	}
	shut()
	if l.Round != 2 || l.Until[6] != 0 || l.Hold[6] != 1 || len(blackAt(l)) > 0 {
		t.Error(l)
	}
	bad()
	shut()
	if l.Round != 3 || l.Until[6] != 5 || l.Hold[6] != 2 || !slices.Equal(blackAt(l), []int{6}) {
		t.Error(l)
	}
}

// P12.3: learners that have learned the same.
func TestMerge(t *testing.T) {
	a := le(7, state{0, 5, 3, 0, 4}, state{3, 2, 0, 9, 1}, state{15, most - 4, 9, 0, 0})
	b := le(7, state{0, 2, 2, 0, 4}, state{3, 1, 1, 9, 1}, state{7, 6, 5, 0, 0}, state{15, 4, 4, 0, 0})
	both := le(7, state{0, 7, 5, 0, 4}, state{3, 3, 1, 9, 1}, state{7, 6, 5, 0, 0}, state{15, most, 13, 0, 0})
	over := le(7, state{0, 0, 0, 0, 4}, state{3, 0, 0, 9, 1}, state{15, 5, 0, 0, 0})
	first := le(7, state{0, most, 0, 0, 4}, state{3, 0, 0, 9, 1})
	for _, x := range []struct {
		a, b, want api.Learner
		e          api.Errno
	}{
		{a, b, both, api.OK}, {b, a, both, api.OK}, {le(0), le(0), le(0), api.OK}, {le(most), le(most), le(most), api.OK},
		// exactly 2^30 attempts together, and one more
		{a, over, api.Learner{}, api.ErrFull}, {over, a, api.Learner{}, api.ErrFull}, {a, a, api.Learner{}, api.ErrFull}, {a, first, api.Learner{}, api.ErrFull}, {le(7, state{4, most, most, 0, 0}), le(7), le(7, state{4, most, most, 0, 0}), api.OK}, {le(7, state{4, most, most, 0, 0}), le(7, state{4, 1, 0, 0, 0}), api.Learner{}, api.ErrFull}, {le(7, state{4, most, most, 0, 0}), le(7, state{4, most, most, 0, 0}), api.Learner{}, api.ErrFull}, {le(7, state{4, most / 2, 0, 0, 0}), le(7, state{4, most / 2, most / 2, 0, 0}), le(7, state{4, most, most / 2, 0, 0}), api.OK}, {le(7, state{4, most / 2, 0, 0, 0}), le(7, state{4, most/2 + 1, 0, 0, 0}), api.Learner{}, api.ErrFull},
		// each part that differs, before what would be full
		{le(7), le(8), api.Learner{}, api.ErrMismatch}, {le(8), le(7), api.Learner{}, api.ErrMismatch}, {le(7, state{3, most, 0, 9, 1}), le(7, state{3, most, 0, 10, 1}), api.Learner{}, api.ErrMismatch}, {le(7, state{3, most, 0, 9, 1}), le(7, state{3, most, 0, 9, 2}), api.Learner{}, api.ErrMismatch}, {le(7, state{3, most, 0, 9, 1}), le(7, state{4, most, 0, 9, 1}), api.Learner{}, api.ErrMismatch}, {le(7, state{3, most, 0, 0, 1}), le(7, state{3, most, 0, 0, 0}), api.Learner{}, api.ErrMismatch}, {le(7, state{15, most, 0, 0, 1}), le(7, state{15, most, 0, 9, 1}), api.Learner{}, api.ErrMismatch}, {le(7, state{0, most, 0, 0, 0}), le(8, state{0, most, 0, 0, 0}), api.Learner{}, api.ErrMismatch}, {le(7, state{0, 0, 0, 0, 8}), le(7), api.Learner{}, api.ErrMismatch}, {le(7), le(7, state{0, 0, 0, 0, 8}), api.Learner{}, api.ErrMismatch},
	} {
		l, e := quality.Merge(x.a, x.b)
		if e != x.e || e == api.OK && !reflect.DeepEqual(l, x.want) || e != api.OK && !isZero(l) {
			t.Errorf("%v and %v: %v %v", x.a, x.b, l, e)
		}
	}
}

// P12.3, P12.4: neither the order of attempts matters, nor which node has noted them.
func TestOrderOfAttempts(t *testing.T) {
	next := random(31)
	type attempt struct {
		channel int
		acked   bool
	}
	for range 200 {
		start := someLearner(next)
		for c := range 16 {
			start.Counts[c] = co(0, 0)
		}
		attempts := make([]attempt, next(60))
		for i := range attempts {
			attempts[i] = attempt{next(15), next(1) == 0}
		}
		note := func(l api.Learner, a attempt) api.Learner {
			l, e := quality.Note(l, a.channel, a.acked)
			if e != api.OK {
				t.Fatal(e)
			}
			return l
		}
		one, other, parts := start, start, [3]api.Learner{start, start, start}
		for _, a := range attempts {
			one = note(one, a)
			part := &parts[next(2)]
			*part = note(*part, a)
		}
		for i := range attempts {
			j := i + next(len(attempts)-1-i)
			attempts[i], attempts[j] = attempts[j], attempts[i]
			other = note(other, attempts[i])
		}
		two, e := quality.Merge(parts[2], parts[0])
		three, f := quality.Merge(parts[1], two)
		if e != api.OK || f != api.OK || !reflect.DeepEqual(one, other) || !reflect.DeepEqual(one, three) {
			t.Fatalf("%v %v %v: %v %v", one, other, three, e, f)
		}
		a, _ := quality.Close(one, 2, 600, 900, 3)
		b, _ := quality.Close(three, 2, 600, 900, 3)
		if !reflect.DeepEqual(a, b) {
			t.Fatalf("%v %v", a, b)
		}
	}
}

// spoil changes all elements of a learner.
func spoil(l api.Learner) {
	for i := range l.Counts {
		l.Counts[i], l.Until[i], l.Hold[i] = co(-5, -5), -5, -5
	}
}

// Rules: arguments stay as they were, results share no memory with them.
func TestArgumentsStay(t *testing.T) {
	build := func() api.Learner {
		return le(7, state{0, 5, 1, 0, 4}, state{3, 2, 0, 8, 1}, state{6, 9, 9, 0, 2}, state{9, 3, 0, 0, 0})
	}
	l, other := build(), build()
	kept := build()
	noted, e := quality.Note(l, 3, true)
	shut, f := quality.Close(l, 2, 500, 900, 1)
	merged, g := quality.Merge(l, other)
	black, h := quality.Black(l)
	if e != api.OK || f != api.OK || g != api.OK || h != api.OK {
		t.Fatal(e, f, g, h)
	}
	if !reflect.DeepEqual(l, kept) || !reflect.DeepEqual(other, kept) {
		t.Error(l, other)
	}
	spoil(noted)
	spoil(shut)
	spoil(merged)
	black[0] = 99
	if !reflect.DeepEqual(l, kept) || !reflect.DeepEqual(other, kept) {
		t.Error(l, other)
	}
}

// P1: nothing panics, whatever the numbers are, and with an error all other results are zero.
func TestAllArguments(t *testing.T) {
	numbers := append([]int{-1, 0, 1, 8, 16, 64, 1000, 1001, most, most + 1}, extremes...)
	for _, a := range numbers {
		for _, b := range numbers {
			for _, c := range numbers {
				l := le(a, state{3, b, c, 0, 0}, state{4, 0, 0, b, c}, state{5, 9, 2, a + 1, 1})
				for _, x := range []api.Learner{l, le(7, state{3, 5, 1, 0, 8}), {Round: a}} {
					if n, e := quality.Note(x, b, c > 0); e != api.OK && !isZero(n) || e == api.OK && quality.Valid(n) != api.OK {
						t.Errorf("%v: %v %v", x, n, e)
					}
					if n, e := quality.Close(x, 5, a, b, c); e != api.OK && !isZero(n) || e == api.OK && quality.Valid(n) != api.OK {
						t.Errorf("%v: %v %v", x, n, e)
					}
					if n, e := quality.Close(x, a, b, c, a); e != api.OK && !isZero(n) || e == api.OK && quality.Valid(n) != api.OK {
						t.Errorf("%v: %v %v", x, n, e)
					}
					if n, e := quality.Merge(x, l); e != api.OK && !isZero(n) || e == api.OK && quality.Valid(n) != api.OK {
						t.Errorf("%v: %v %v", x, n, e)
					}
					if n, e := quality.Black(x); e != api.OK && len(n) > 0 {
						t.Errorf("%v: %v %v", x, n, e)
					}
				}
				quality.Less(co(a, b), co(b, c))
				if n, e := quality.Rate(co(a, b)); e != api.OK && n != 0 {
					t.Errorf("%d %d: %d %v", a, b, n, e)
				}
				if n, e := quality.Cost(co(a, b)); e != api.OK && n != 0 {
					t.Errorf("%d %d: %d %v", a, b, n, e)
				}
				if n, e := quality.Add(co(a, b), c > 0); e != api.OK && n != (api.Counts{}) || e == api.OK && quality.Check(n) != api.OK {
					t.Errorf("%d %d: %v %v", a, b, n, e)
				}
			}
		}
	}
}
