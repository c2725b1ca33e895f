package hop_test

import (
	"math"
	"reflect"
	"slices"
	"testing"

	"hopmesh/api"
	"hopmesh/hop"
)

const (
	lastSlot  = api.MaxTime / api.SlotTime
	lastUntil = lastSlot + 1
)

// extremes are numbers that nothing allows.
var extremes = []int{math.MinInt, math.MinInt + 1, -1 << 42, 1 << 42, math.MaxInt - 1, math.MaxInt}

// li returns a list.
func li(version, first, until int, channels ...int) api.HopList {
	return api.HopList{Version: version, First: first, Until: until, Channels: channels}
}

// all returns all channels in increasing order.
func all() []int {
	l := make([]int, api.Channels)
	for i := range l {
		l[i] = i
	}
	return l
}

// wrongChannels returns channels that no list has.
func wrongChannels() [][]int {
	l := [][]int{nil, {}, {-1}, {16}, {0, -1}, {0, 16}, {16, 0}, {3, 3}, {3, 4, 3}, {4, 3, 3}, append(all(), 0), append(all(), 16), append(all(), 15), append(all()[1:], 15), append(all()[:15], 0), append(all(), all()...)}
	for _, n := range extremes {
		l = append(l, []int{n}, []int{5, n}, []int{n, 5})
	}
	return l
}

// wrong returns lists that are not valid.
func wrong() []api.HopList {
	l := []api.HopList{
		{}, li(-1, 0, 1, 0), li(256, 0, 1, 0), li(0, -1, 1, 0), li(0, -1, 0, 0), li(0, 0, 0, 0), li(0, 5, 5, 0), li(0, 5, 4, 0), li(0, 5, -1, 0), li(0, 0, lastUntil+1, 0), li(0, lastSlot, lastUntil+1, 0), li(0, lastUntil, lastUntil, 0), li(0, lastUntil, lastUntil+1, 0),
	}
	for _, n := range extremes {
		l = append(l, li(n, 0, 1, 0), li(0, n, 1, 0), li(0, 0, n, 0), li(0, n, n, 0), li(0, n, n+1, 0))
	}
	for _, channels := range wrongChannels() {
		l = append(l, li(0, 0, 1, channels...))
	}
	return l
}

// right returns lists that are valid.
func right() []api.HopList {
	return []api.HopList{
		li(0, 0, 1, 0), li(255, 0, 1, 15), li(7, 5, 6, 3, 2), li(1, 0, lastUntil, all()...), li(254, lastSlot, lastUntil, 11, 12, 15), li(3, 5, 9, 15, 14, 13, 12, 11, 10, 9, 8, 7, 6, 5, 4, 3, 2, 1, 0), li(0, lastSlot-1, lastSlot, 0, 15),
	}
}

// edges are numbers at a bound, and beside it.
func edges(n int) []int { return []int{n - 1, n, n + 1} }

// random returns a function that gives numbers from 0 to most, which follow from a seed.
func random(seed uint64) func(most int) int {
	return func(most int) int {
		seed = seed*6364136223846793005 + 1442695040888963407
		return int(seed>>16) % (most + 1)
	}
}

// someChannels returns 1 to 16 different channels in any order.
func someChannels(next func(int) int) []int {
	l := all()
	for i := range l {
		j := i + next(len(l)-1-i)
		l[i], l[j] = l[j], l[i]
	}
	return l[:1+next(api.Channels-1)]
}

// someList returns a valid list.
func someList(next func(int) int) api.HopList {
	first := next(lastSlot)
	return li(next(255), first, first+1+next(lastSlot-first), someChannels(next)...)
}

// sequence returns so many lists, each one of some slots, with channels.
func sequence(next func(int) int, count int) []api.HopList {
	l := []api.HopList{li(next(255), next(20), 0, someChannels(next)...)}
	l[0].Until = l[0].First + 1 + next(5)
	for len(l) < count {
		last := l[len(l)-1]
		version := last.Version + 1
		if version == 256 {
			version = 0
		}
		l = append(l, li(version, last.Until, last.Until+1+next(5), someChannels(next)...))
	}
	return l
}

// P11.1: which lists are valid.
func TestCheck(t *testing.T) {
	for _, l := range right() {
		if e := hop.Check(l); e != api.OK {
			t.Errorf("%v: %v", l, e)
		}
	}
	for _, l := range wrong() {
		if e := hop.Check(l); e != api.ErrArg {
			t.Errorf("%v: %v", l, e)
		}
	}
}

// P11.1: each part of a list has its bounds, whatever the others are.
func TestCheckParts(t *testing.T) {
	for _, version := range []int{-1, 0, 1, 254, 255, 256} {
		for _, first := range []int{-1, 0, 1, lastSlot, lastUntil} {
			for _, until := range append(edges(first), append(edges(lastUntil), first+2)...) {
				for _, channel := range []int{-1, 0, 15, 16} {
					want := api.ErrArg
					if version >= 0 && version <= 255 && first >= 0 && until > first && until <= lastUntil && channel >= 0 && channel <= 15 {
						want = api.OK
					}
					l := li(version, first, until, 7, channel)
					if e := hop.Check(l); e != want {
						t.Errorf("%v: %v", l, e)
					}
				}
			}
		}
	}
}

// P11.1: channels for offsets, and whether two of them meet.
func TestChannel(t *testing.T) {
	abc := li(3, 2, 9, 11, 12, 15)
	for _, x := range []struct {
		l                  api.HopList
		slot, offset, want int
		e                  api.Errno
	}{
		// the document's example
		{abc, 4, 1, 15, api.OK}, {abc, 5, 1, 11, api.OK},
		{abc, 2, 0, 15, api.OK}, {abc, 2, 1, 11, api.OK}, {abc, 2, 2, 12, api.OK}, {abc, 8, 0, 15, api.OK}, {abc, 8, 2, 12, api.OK}, {abc, 3, 0, 11, api.OK},
		{li(0, 0, 1, 7), 0, 0, 7, api.OK}, {li(0, 0, lastUntil, 7), lastSlot, 0, 7, api.OK}, {li(0, 0, lastUntil, 7, 3), lastSlot, 0, []int{7, 3}[lastSlot%2], api.OK}, {li(0, 0, lastUntil, all()...), lastSlot, 15, (lastSlot + 15) % 16, api.OK}, {li(0, 0, lastUntil, all()...), 16, 15, 15, api.OK}, {li(0, 0, lastUntil, all()...), 0, 0, 0, api.OK},
		// slots
		{abc, 1, 0, 0, api.ErrState}, {abc, 9, 0, 0, api.ErrState}, {abc, -1, 0, 0, api.ErrState}, {abc, 1, 3, 0, api.ErrState}, {abc, 9, -1, 0, api.ErrState}, {li(0, 0, lastUntil, 7), lastUntil, 0, 0, api.ErrState}, {li(0, 0, lastUntil, 7), -1, 0, 0, api.ErrState}, {li(0, 0, 1, 7), 1, 0, 0, api.ErrState}, {li(0, 0, 1, 7), 1, 1, 0, api.ErrState},
		// offsets
		{abc, 4, -1, 0, api.ErrRange}, {abc, 4, 3, 0, api.ErrRange}, {abc, 4, 16, 0, api.ErrRange}, {li(0, 0, 1, 7), 0, 1, 0, api.ErrRange}, {li(0, 0, 1, all()...), 0, 16, 0, api.ErrRange}, {li(0, 0, 1, all()...), 0, -1, 0, api.ErrRange},
	} {
		if n, e := hop.Channel(x.l, x.slot, x.offset); n != x.want || e != x.e {
			t.Errorf("%v: %d %v", x, n, e)
		}
	}
	for _, n := range extremes {
		if c, e := hop.Channel(abc, n, 0); c != 0 || e != api.ErrState {
			t.Errorf("slot %d: %d %v", n, c, e)
		}
		if c, e := hop.Channel(abc, 4, n); c != 0 || e != api.ErrRange {
			t.Errorf("offset %d: %d %v", n, c, e)
		}
	}
}

// P11.1: equal offsets meet, different ones do not; the errors come in their order.
func TestMeet(t *testing.T) {
	abc := li(3, 2, 9, 11, 12, 15)
	for _, x := range []struct {
		l          api.HopList
		slot, a, b int
		want       bool
		e          api.Errno
	}{
		{abc, 4, 1, 1, true, api.OK}, {abc, 4, 0, 1, false, api.OK}, {abc, 4, 1, 0, false, api.OK}, {abc, 4, 0, 2, false, api.OK}, {abc, 2, 2, 2, true, api.OK}, {abc, 8, 0, 0, true, api.OK}, {li(0, 0, 1, 7), 0, 0, 0, true, api.OK}, {li(0, 0, lastUntil, all()...), lastSlot, 0, 15, false, api.OK}, {li(0, 0, lastUntil, all()...), lastSlot, 15, 15, true, api.OK},
		{abc, 1, 0, 0, false, api.ErrState}, {abc, 9, 1, 0, false, api.ErrState}, {abc, 1, -1, 3, false, api.ErrState}, {abc, 9, 3, 3, false, api.ErrState},
		{abc, 4, -1, 0, false, api.ErrRange}, {abc, 4, 0, -1, false, api.ErrRange}, {abc, 4, 3, 0, false, api.ErrRange}, {abc, 4, 0, 3, false, api.ErrRange}, {abc, 4, -1, -1, false, api.ErrRange}, {abc, 4, 3, 3, false, api.ErrRange}, {abc, 4, 1, 4, false, api.ErrRange},
	} {
		if ok, e := hop.Meet(x.l, x.slot, x.a, x.b); ok != x.want || e != x.e {
			t.Errorf("%v: %v %v", x, ok, e)
		}
	}
	for _, n := range extremes {
		if ok, e := hop.Meet(abc, 4, 0, n); ok || e != api.ErrRange {
			t.Errorf("%d: %v %v", n, ok, e)
		}
		if ok, e := hop.Meet(abc, 4, n, n); ok || e != api.ErrRange {
			t.Errorf("%d: %v %v", n, ok, e)
		}
	}
}

// P11.1, P11.3: a list that is not valid is named before all other errors.
func TestWrongLists(t *testing.T) {
	for _, l := range wrong() {
		for _, n := range append([]int{-1, 0, 1}, extremes...) {
			if c, e := hop.Channel(l, n, n); c != 0 || e != api.ErrArg {
				t.Errorf("%v: %d %v", l, c, e)
			}
			if ok, e := hop.Meet(l, n, n, n); ok || e != api.ErrArg {
				t.Errorf("%v: %v %v", l, ok, e)
			}
			if next, e := hop.Next(l, n, []int{3}); !reflect.DeepEqual(next, api.HopList{}) || e != api.ErrArg {
				t.Errorf("%v: %v %v", l, next, e)
			}
		}
		if next, e := hop.Next(l, lastUntil, []int{3}); !reflect.DeepEqual(next, api.HopList{}) || e != api.ErrArg {
			t.Errorf("%v: %v %v", l, next, e)
		}
	}
}

// P11.2: which sequences are valid, and which error is named.
func TestCheckAll(t *testing.T) {
	a, b, c := li(254, 0, 5, 1), li(255, 5, 6, 2, 3), li(0, 6, 9, 4)
	for _, x := range []struct {
		l []api.HopList
		e api.Errno
	}{
		{nil, api.ErrArg}, {[]api.HopList{}, api.ErrArg}, {[]api.HopList{a}, api.OK}, {[]api.HopList{c}, api.OK}, {[]api.HopList{a, b}, api.OK}, {[]api.HopList{a, b, c}, api.OK}, {[]api.HopList{a, b, c, li(1, 9, lastUntil, 4)}, api.OK},
		// a First that is too early or too late
		{[]api.HopList{a, li(255, 4, 6, 2)}, api.ErrOrder}, {[]api.HopList{a, li(255, 6, 7, 2)}, api.ErrOrder}, {[]api.HopList{a, li(255, 0, 6, 2)}, api.ErrOrder}, {[]api.HopList{a, b, li(0, 7, 9, 4)}, api.ErrOrder}, {[]api.HopList{a, b, li(0, 5, 9, 4)}, api.ErrOrder}, {[]api.HopList{a, c}, api.ErrOrder}, {[]api.HopList{b, a}, api.ErrOrder}, {[]api.HopList{a, a}, api.ErrOrder},
		// versions
		{[]api.HopList{a, li(254, 5, 6, 2)}, api.ErrVersion}, {[]api.HopList{a, li(253, 5, 6, 2)}, api.ErrVersion}, {[]api.HopList{a, li(0, 5, 6, 2)}, api.ErrVersion}, {[]api.HopList{a, b, li(1, 6, 9, 4)}, api.ErrVersion}, {[]api.HopList{a, b, li(255, 6, 9, 4)}, api.ErrVersion}, {[]api.HopList{a, b, li(254, 6, 9, 4)}, api.ErrVersion}, {[]api.HopList{li(0, 0, 1, 1), li(255, 1, 2, 1)}, api.ErrVersion}, {[]api.HopList{li(0, 0, 1, 1), li(2, 1, 2, 1)}, api.ErrVersion}, {[]api.HopList{li(0, 0, 1, 1), li(1, 1, 2, 1)}, api.OK},
		// several errors in one list
		{[]api.HopList{a, li(254, 4, 6, 2)}, api.ErrOrder}, {[]api.HopList{a, li(256, 5, 6, 2)}, api.ErrArg}, {[]api.HopList{a, li(256, 4, 6, 2)}, api.ErrArg}, {[]api.HopList{a, li(255, 4, 6, 16)}, api.ErrArg}, {[]api.HopList{a, li(7, 5, 6)}, api.ErrArg}, {[]api.HopList{a, li(7, 5, 5, 2)}, api.ErrArg},
		// errors in several lists
		{[]api.HopList{a, li(255, 4, 6, 2), li(0, 6, 9)}, api.ErrOrder}, {[]api.HopList{a, li(254, 5, 6, 2), li(0, 6, 9)}, api.ErrVersion}, {[]api.HopList{a, li(254, 5, 6, 2), li(255, 7, 9, 3)}, api.ErrVersion}, {[]api.HopList{a, li(255, 4, 6, 2), li(255, 6, 9, 3)}, api.ErrOrder}, {[]api.HopList{{}, b, a}, api.ErrArg}, {[]api.HopList{a, {}, a}, api.ErrArg}, {[]api.HopList{a, b, {}}, api.ErrArg},
	} {
		if e := hop.CheckAll(x.l); e != x.e {
			t.Errorf("%v: %v, want %v", x.l, e, x.e)
		}
		want := x.e
		if want == api.OK && !covers(x.l, 5) {
			want = api.ErrNotFound
		}
		if l, e := hop.InForce(x.l, 5); e != want || e != api.OK && !reflect.DeepEqual(l, api.HopList{}) {
			t.Errorf("%v: %v %v, want %v", x.l, l, e, want)
		}
	}
}

// covers reports whether one of some lists is in force in a slot.
func covers(l []api.HopList, slot int) bool {
	return slices.ContainsFunc(l, func(x api.HopList) bool { return x.First <= slot && slot < x.Until })
}

// P11.2: lists that are not valid, wherever they stand.
func TestWrongSequences(t *testing.T) {
	for _, l := range wrong() {
		for _, s := range [][]api.HopList{{l}, {l, l}, {l, li(1, 1, 2, 3)}, {li(255, 0, 1, 3), l}, {li(0, 0, 1, 3), li(1, 1, 2, 3), l}, {li(0, 0, 1, 3), l, li(7, 1, 2, 3)}} {
			if e := hop.CheckAll(s); e != api.ErrArg {
				t.Errorf("%v: %v", s, e)
			}
			for _, slot := range append([]int{-1, 0, 1}, extremes...) {
				if x, e := hop.InForce(s, slot); !reflect.DeepEqual(x, api.HopList{}) || e != api.ErrArg {
					t.Errorf("%v in %d: %v %v", s, slot, x, e)
				}
			}
		}
	}
}

// P11.2: a sequence has at most MaxList lists.
func TestLongSequences(t *testing.T) {
	next := random(3)
	for _, n := range []int{1, 2, 256, 257, api.MaxList - 1, api.MaxList, api.MaxList + 1, 2 * api.MaxList} {
		l := sequence(next, n)
		want := api.OK
		if n > api.MaxList {
			want = api.ErrArg
		}
		if e := hop.CheckAll(l); e != want {
			t.Errorf("%d: %v", n, e)
		}
		if x, e := hop.InForce(l, l[n-1].First); e != want || e == api.OK && !reflect.DeepEqual(x, l[n-1]) || e != api.OK && !reflect.DeepEqual(x, api.HopList{}) {
			t.Errorf("%d: %v %v", n, x, e)
		}
	}
	// too many lists are named before what is wrong with one
	l := sequence(next, api.MaxList+1)
	l[1].Version = l[0].Version
	if e := hop.CheckAll(l); e != api.ErrArg {
		t.Error(e)
	}
}

// P11.2: the list that is in force.
func TestInForce(t *testing.T) {
	l := []api.HopList{li(254, 2, 5, 1), li(255, 5, 6, 2, 3), li(0, 6, 9, 4)}
	for slot, want := range []int{-1, -1, 0, 0, 0, 1, 2, 2, 2, -1, -1} {
		x, e := hop.InForce(l, slot)
		if want < 0 {
			if !reflect.DeepEqual(x, api.HopList{}) || e != api.ErrNotFound {
				t.Errorf("%d: %v %v", slot, x, e)
			}
			continue
		}
		if !reflect.DeepEqual(x, l[want]) || e != api.OK {
			t.Errorf("%d: %v %v", slot, x, e)
		}
	}
	for _, slot := range append([]int{-1, lastSlot, lastUntil}, extremes...) {
		if x, e := hop.InForce(l, slot); !reflect.DeepEqual(x, api.HopList{}) || e != api.ErrNotFound {
			t.Errorf("%d: %v %v", slot, x, e)
		}
	}
	whole := []api.HopList{li(0, 0, lastUntil, 5)}
	for slot, want := range map[int]api.Errno{-1: api.ErrNotFound, 0: api.OK, lastSlot: api.OK, lastUntil: api.ErrNotFound} {
		if _, e := hop.InForce(whole, slot); e != want {
			t.Errorf("%d: %v", slot, e)
		}
	}
}

// repeated returns a channel so many times.
func repeated(channel, count int) []int { return slices.Repeat([]int{channel}, count) }

// P11.3: the channels that stay.
func TestWithout(t *testing.T) {
	for _, x := range []struct {
		channels, black []int
		least           int
		want            []int
		e               api.Errno
	}{
		// the document's example
		{[]int{11, 12, 15, 3}, []int{12, 15}, 3, []int{11, 12, 3}, api.OK},
		{[]int{11, 12, 15, 3}, []int{12, 15}, 2, []int{11, 3}, api.OK}, {[]int{11, 12, 15, 3}, []int{12, 15}, 1, []int{11, 3}, api.OK}, {[]int{11, 12, 15, 3}, []int{12, 15}, 4, []int{11, 12, 15, 3}, api.OK}, {[]int{11, 12, 15, 3}, []int{15, 12}, 3, []int{11, 15, 3}, api.OK},
		// no blacklist
		{[]int{11, 12}, nil, 1, []int{11, 12}, api.OK}, {[]int{11, 12}, []int{}, 2, []int{11, 12}, api.OK}, {[]int{0}, nil, 1, []int{0}, api.OK},
		// repetitions
		{[]int{11, 12, 15, 3}, []int{12, 12, 15, 12}, 3, []int{11, 12, 3}, api.OK}, {[]int{11, 12, 15, 3}, []int{12, 12, 15, 12}, 4, []int{11, 12, 15, 3}, api.OK}, {[]int{11, 12, 15, 3}, []int{12, 12, 12}, 1, []int{11, 15, 3}, api.OK}, {[]int{5, 6, 7}, []int{7, 7, 6, 6, 5, 5}, 2, []int{6, 7}, api.OK},
		// channels that are not in the list
		{[]int{11, 12, 15, 3}, []int{0, 1, 2}, 4, []int{11, 12, 15, 3}, api.OK}, {[]int{11, 12, 15, 3}, []int{0, 12, 1, 15, 2}, 3, []int{11, 12, 3}, api.OK}, {[]int{5, 6}, []int{0, 1, 6, 5}, 1, []int{6}, api.OK}, {[]int{5, 6}, []int{0, 1, 2, 3}, 1, []int{5, 6}, api.OK},
		// all channels: those that stay keep their places
		{[]int{5, 6, 7}, []int{7, 5, 6}, 1, []int{7}, api.OK}, {[]int{5, 6, 7}, []int{7, 5, 6}, 2, []int{5, 7}, api.OK}, {[]int{5, 6, 7}, []int{7, 5, 6}, 3, []int{5, 6, 7}, api.OK}, {[]int{7, 6, 5}, []int{5, 6, 7}, 2, []int{6, 5}, api.OK}, {all(), all(), 1, []int{0}, api.OK}, {all(), all(), 16, all(), api.OK}, {[]int{15}, all(), 1, []int{15}, api.OK}, {[]int{15, 0}, []int{15, 0}, 1, []int{15}, api.OK},
		// long blacklists
		{[]int{3, 4}, repeated(3, 64), 1, []int{4}, api.OK}, {[]int{3, 4}, append(repeated(3, 63), 4), 1, []int{3}, api.OK}, {[]int{3, 4}, append(repeated(9, 63), 4), 1, []int{3}, api.OK}, {[]int{3, 4}, repeated(3, 65), 1, nil, api.ErrArg}, {[]int{3, 4}, repeated(9, 65), 1, nil, api.ErrArg},
		// numbers that are no channels
		{[]int{3, 4}, []int{-1}, 1, nil, api.ErrArg}, {[]int{3, 4}, []int{16}, 1, nil, api.ErrArg}, {[]int{3, 4}, []int{3, 16}, 1, nil, api.ErrArg}, {[]int{3, 4}, append(repeated(3, 63), -1), 1, nil, api.ErrArg}, {[]int{3, 4}, []int{0, 15}, 1, []int{3, 4}, api.OK},
		// least
		{[]int{3, 4}, nil, 0, nil, api.ErrRange}, {[]int{3, 4}, nil, 3, nil, api.ErrRange}, {[]int{3, 4}, nil, -1, nil, api.ErrRange}, {all(), nil, 17, nil, api.ErrRange}, {[]int{3, 4}, []int{3}, 0, nil, api.ErrRange}, {[]int{3}, []int{3}, 2, nil, api.ErrRange},
		// the order of errors
		{[]int{3, 3}, nil, 0, nil, api.ErrArg}, {[]int{3, 4}, []int{16}, 0, nil, api.ErrArg}, {[]int{3, 4}, repeated(3, 65), 3, nil, api.ErrArg}, {nil, nil, 0, nil, api.ErrArg},
	} {
		if l, e := hop.Without(x.channels, x.black, x.least); !slices.Equal(l, x.want) || e != x.e {
			t.Errorf("%v: %v %v", x, l, e)
		}
	}
	for _, l := range wrongChannels() {
		for _, least := range []int{0, 1, 17} {
			if stay, e := hop.Without(l, nil, least); len(stay) > 0 || e != api.ErrArg {
				t.Errorf("%v: %v %v", l, stay, e)
			}
		}
	}
	for _, n := range extremes {
		if stay, e := hop.Without([]int{3, 4}, nil, n); len(stay) > 0 || e != api.ErrRange {
			t.Errorf("%d: %v %v", n, stay, e)
		}
		if stay, e := hop.Without([]int{3, 4}, []int{4, n}, 1); len(stay) > 0 || e != api.ErrArg {
			t.Errorf("%d: %v %v", n, stay, e)
		}
	}
}

// stayed computes what stays by taking away one channel after the other, the last ones of the blacklist first.
func stayed(channels, black []int, least int) []int {
	l := slices.Clone(channels)
	for i := len(black) - 1; i >= 0; i-- {
		// A channel that stands earlier, too, stays longer than this.
		if slices.Contains(black[:i], black[i]) || len(l) == least {
			continue
		}
		if at := slices.Index(l, black[i]); at >= 0 {
			l = slices.Delete(l, at, at+1)
		}
	}
	return l
}

// P11.3, P11.5: what stays is what is left if channels are taken away as long as there are enough; channels of the blacklist stay only if there would be too few without them.
func TestRandomBlacklists(t *testing.T) {
	next := random(7)
	for range 20000 {
		channels := someChannels(next)
		black := make([]int, next(20))
		for i := range black {
			black[i] = next(15)
		}
		least := 1 + next(len(channels)-1)
		l, e := hop.Without(channels, black, least)
		if want := stayed(channels, black, least); e != api.OK || !slices.Equal(l, want) {
			t.Fatalf("%v without %v, %d: %v %v, want %v", channels, black, least, l, e, want)
		}
		if len(l) < least {
			t.Fatalf("%v without %v, %d: %v", channels, black, least, l)
		}
		isBlack := func(c int) bool { return slices.Contains(black, c) }
		if len(l) > least && slices.ContainsFunc(l, isBlack) {
			t.Fatalf("%v without %v, %d: %v", channels, black, least, l)
		}
		for _, c := range channels {
			if !isBlack(c) && !slices.Contains(l, c) {
				t.Fatalf("%v without %v, %d: %v", channels, black, least, l)
			}
		}
	}
}

// P11.3: the list that follows another one.
func TestNext(t *testing.T) {
	a := li(3, 2, 9, 11, 12)
	for _, x := range []struct {
		l        api.HopList
		until    int
		channels []int
		want     api.HopList
		e        api.Errno
	}{
		{a, 12, []int{5, 3}, li(4, 9, 12, 5, 3), api.OK}, {a, 10, []int{0}, li(4, 9, 10, 0), api.OK}, {a, lastUntil, all(), li(4, 9, lastUntil, all()...), api.OK}, {a, 12, a.Channels, li(4, 9, 12, 11, 12), api.OK},
		{li(254, 0, 1, 1), 2, []int{1}, li(255, 1, 2, 1), api.OK}, {li(255, 0, 1, 1), 2, []int{1}, li(0, 1, 2, 1), api.OK}, {li(0, 0, 1, 1), 2, []int{15}, li(1, 1, 2, 15), api.OK}, {li(0, 0, lastSlot, 1), lastUntil, []int{15}, li(1, lastSlot, lastUntil, 15), api.OK},
		// until
		{a, 9, []int{0}, api.HopList{}, api.ErrArg}, {a, 8, []int{0}, api.HopList{}, api.ErrArg}, {a, 2, []int{0}, api.HopList{}, api.ErrArg}, {a, -1, []int{0}, api.HopList{}, api.ErrArg}, {a, lastUntil + 1, []int{0}, api.HopList{}, api.ErrArg}, {li(255, 0, 1, 1), 1, []int{0}, api.HopList{}, api.ErrArg}, {li(0, 0, lastUntil, 1), lastUntil, []int{0}, api.HopList{}, api.ErrArg}, {li(0, 0, lastUntil, 1), lastUntil + 1, []int{0}, api.HopList{}, api.ErrArg}, {li(255, 0, 1, 1), lastUntil + 1, []int{0}, api.HopList{}, api.ErrArg},
	} {
		if l, e := hop.Next(x.l, x.until, x.channels); !reflect.DeepEqual(l, x.want) || e != x.e {
			t.Errorf("%v: %v %v", x, l, e)
		}
	}
	for _, channels := range wrongChannels() {
		if l, e := hop.Next(a, 12, channels); !reflect.DeepEqual(l, api.HopList{}) || e != api.ErrArg {
			t.Errorf("%v: %v %v", channels, l, e)
		}
	}
	for _, n := range extremes {
		if l, e := hop.Next(a, n, []int{0}); !reflect.DeepEqual(l, api.HopList{}) || e != api.ErrArg {
			t.Errorf("%v: %v %v", n, l, e)
		}
	}
}

// P11.2, P11.3: lists that are made one behind the other are a sequence.
func TestNextFollows(t *testing.T) {
	next := random(11)
	l := []api.HopList{li(200, 5, 7, 3)}
	for len(l) < 300 {
		last := l[len(l)-1]
		x, e := hop.Next(last, last.Until+1+next(9), someChannels(next))
		if e != api.OK || !hop.Newer(x.Version, last.Version) || hop.Newer(last.Version, x.Version) {
			t.Fatalf("%v behind %v: %v", x, last, e)
		}
		l = append(l, x)
	}
	if e := hop.CheckAll(l); e != api.OK {
		t.Error(e)
	}
}

// P11.4: which versions are newer, by counting up.
func TestNewer(t *testing.T) {
	for b := range 256 {
		a := b
		for difference := range 256 {
			if got, want := hop.Newer(a, b), difference >= 1 && difference <= 127; got != want {
				t.Errorf("%d than %d: %v", a, b, got)
			}
			a++
			if a == 256 {
				a = 0
			}
		}
	}
	for _, x := range []struct {
		a, b int
		want bool
	}{
		{3, 250, true}, {250, 3, false}, {0, 0, false}, {1, 0, true}, {0, 1, false}, {127, 0, true}, {128, 0, false}, {255, 0, false}, {0, 255, true}, {0, 129, true}, {0, 128, false}, {126, 255, true}, {127, 255, false}, {255, 128, true}, {255, 127, false},
		{-1, 250, false}, {0, -1, false}, {5, -1, false}, {-1, -2, false}, {256, 255, false}, {256, 250, false}, {257, 256, false}, {1, 256, false}, {10, 256, false}, {256, 0, false}, {0, 256, false},
	} {
		if got := hop.Newer(x.a, x.b); got != x.want {
			t.Errorf("%d than %d: %v", x.a, x.b, got)
		}
	}
	for _, n := range extremes {
		for _, m := range append([]int{0, 5, 255}, extremes...) {
			if hop.Newer(n, m) || hop.Newer(m, n) {
				t.Errorf("%d and %d", n, m)
			}
		}
	}
}

// P11.1, P11.5: the channel is the one at (slot + offset) mod length; different offsets have different channels in each slot, and in as many slots as a list has channels each offset has each channel once.
func TestRandomLists(t *testing.T) {
	next := random(13)
	for range 500 {
		l := someList(next)
		count := len(l.Channels)
		first := l.First + next(l.Until-1-l.First)
		seen := make([]map[int]bool, count)
		for offset := range seen {
			seen[offset] = map[int]bool{}
		}
		last := min(first+count, l.Until)
		for slot := first; slot < last; slot++ {
			for a := range count {
				c, e := hop.Channel(l, slot, a)
				if want := l.Channels[(slot%count+a)%count]; e != api.OK || c != want {
					t.Fatalf("%v in %d at %d: %d %v, want %d", l, slot, a, c, e, want)
				}
				if seen[a][c] {
					t.Fatalf("%v in %d at %d: %d again", l, slot, a, c)
				}
				seen[a][c] = true
				for b := range count {
					d, _ := hop.Channel(l, slot, b)
					meet, e := hop.Meet(l, slot, a, b)
					if e != api.OK || meet != (a == b) || meet != (c == d) {
						t.Fatalf("%v in %d at %d and %d: %v %v", l, slot, a, b, meet, e)
					}
				}
			}
		}
		for offset := range seen {
			if len(seen[offset]) != last-first {
				t.Fatalf("%v at %d: %v", l, offset, seen[offset])
			}
		}
	}
}

// P11.2, P11.5: from the First of a sequence to its last Until exactly one list is in force, and none elsewhere.
func TestRandomSequences(t *testing.T) {
	next := random(17)
	for range 200 {
		l := sequence(next, 1+next(12))
		if e := hop.CheckAll(l); e != api.OK {
			t.Fatalf("%v: %v", l, e)
		}
		for slot := -2; slot < l[len(l)-1].Until+3; slot++ {
			var forced []api.HopList
			for _, x := range l {
				if _, e := hop.Channel(x, slot, 0); e == api.OK {
					forced = append(forced, x)
				}
			}
			x, e := hop.InForce(l, slot)
			if slot < l[0].First || slot >= l[len(l)-1].Until {
				if e != api.ErrNotFound || len(forced) != 0 {
					t.Fatalf("%v in %d: %v %v", l, slot, x, e)
				}
				continue
			}
			if e != api.OK || len(forced) != 1 || !reflect.DeepEqual(x, forced[0]) {
				t.Fatalf("%v in %d: %v %v", l, slot, x, e)
			}
		}
	}
}

// Rules: arguments stay as they were, results share no memory with them or with other results.
func TestArgumentsStay(t *testing.T) {
	backing := []int{11, 12, 15, 9, 9}
	l := []api.HopList{li(3, 2, 9, backing[:3]...), li(4, 9, 12, 1)}
	l[0].Channels = backing[:3]
	kept := []api.HopList{li(3, 2, 9, 11, 12, 15), li(4, 9, 12, 1)}
	x, e := hop.InForce(l, 4)
	y, f := hop.InForce(l, 5)
	n, g := hop.Next(l[0], 12, l[0].Channels)
	black := []int{12, 15, 7}
	w, h := hop.Without(l[0].Channels, black[:2], 2)
	whole, i := hop.Without(l[0].Channels, nil, 1)
	if e != api.OK || f != api.OK || g != api.OK || h != api.OK || i != api.OK {
		t.Fatal(e, f, g, h, i)
	}
	for _, result := range [][]int{x.Channels, n.Channels, w, whole} {
		for i := range result {
			result[i] = 14
		}
		_ = append(result, 13)
	}
	if !reflect.DeepEqual(l, kept) || !slices.Equal(backing, []int{11, 12, 15, 9, 9}) || !slices.Equal(black, []int{12, 15, 7}) || !slices.Equal(y.Channels, []int{11, 12, 15}) {
		t.Error(l, backing, black, y)
	}
	if e := hop.CheckAll(l); e != api.OK || !reflect.DeepEqual(l, kept) {
		t.Error(l, e)
	}
}

// P1: nothing panics, whatever the numbers are, and with an error all other results are zero.
func TestAllArguments(t *testing.T) {
	numbers := append([]int{-1, 0, 1, 3, 16, 255, 256, lastSlot, lastUntil, lastUntil + 1}, extremes...)
	for _, a := range numbers {
		for _, b := range numbers {
			for _, c := range numbers {
				l := li(a, b, c, 3, a)
				other := li(3, 0, 5, c, 1)
				for _, x := range []api.HopList{l, other, li(3, 0, 5, 7, 9)} {
					if n, e := hop.Channel(x, b, c); e != api.OK && n != 0 {
						t.Errorf("%v: %d %v", x, n, e)
					}
					if ok, e := hop.Meet(x, a, b, c); e != api.OK && ok {
						t.Errorf("%v: %v", x, e)
					}
					if n, e := hop.Next(x, a, []int{b, c}); e != api.OK && !reflect.DeepEqual(n, api.HopList{}) || e == api.OK && hop.Check(n) != api.OK {
						t.Errorf("%v: %v %v", x, n, e)
					}
					if n, e := hop.InForce([]api.HopList{x, l}, b); e != api.OK && !reflect.DeepEqual(n, api.HopList{}) {
						t.Errorf("%v: %v %v", x, n, e)
					}
				}
				if n, e := hop.Without([]int{a, 5}, []int{b, 5}, c); e != api.OK && len(n) > 0 {
					t.Errorf("%d %d %d: %v %v", a, b, c, n, e)
				}
				hop.Newer(a, b)
			}
		}
	}
}
