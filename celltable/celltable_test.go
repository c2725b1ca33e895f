package celltable_test

import (
	"cmp"
	"math"
	"reflect"
	"slices"
	"testing"

	"hopmesh/api"
	"hopmesh/celltable"
)

// extremes are numbers that nothing allows.
var extremes = []int{math.MinInt, math.MinInt + 1, -1 << 42, -2, 1 << 42, math.MaxInt - 1, math.MaxInt}

// random returns a function that gives numbers from 0 to most, which follow from a seed.
func random(seed uint64) func(most int) int {
	return func(most int) int {
		seed = seed*6364136223846793005 + 1442695040888963407
		return int(seed>>16) % (most + 1)
	}
}

func control(slot, offset, peer, flow int, send bool) api.TableCell {
	return api.TableCell{Slot: slot, Offset: offset, Kind: api.CellControl, Send: send, Peer: peer, Flow: flow}
}

func agreed(slot, offset, peer int, send bool) api.TableCell {
	return api.TableCell{Slot: slot, Offset: offset, Kind: api.CellAgreed, Send: send, Peer: peer, Flow: -1}
}

func shared(slot, offset int) api.TableCell {
	return api.TableCell{Slot: slot, Offset: offset, Kind: api.CellShared, Peer: -1, Flow: -1}
}

func table(node, length int, cells ...api.TableCell) api.Table {
	return api.Table{Node: node, Length: length, Cells: cells}
}

// base is a table with several cells in one slot.
func base() api.Table {
	return table(4, 10, shared(0, 3), control(2, 0, 5, 7, true), agreed(2, 15, 0, false), shared(2, 1), agreed(5, 2, 31, true), shared(7, 0), control(9, 9, 0, 0, false))
}

// same reports whether two tables are equal.
func same(a, b api.Table) bool {
	return a.Node == b.Node && a.Length == b.Length && slices.Equal(a.Cells, b.Cells)
}

// isZero reports whether a table is zero.
func isZero(t api.Table) bool { return same(t, api.Table{}) }

// clone returns a copy of a table behind whose cells there is room, so that an append to them would be seen.
func clone(t api.Table) api.Table {
	t.Cells = append(make([]api.TableCell, 0, len(t.Cells)+8), t.Cells...)
	return t
}

// full returns a table with a number of cells.
func full(n int) api.Table {
	t := table(0, 512)
	for i := range n {
		if i%2 == 0 {
			t.Cells = append(t.Cells, control(i/2, i%16, 1+i%31, i, i%3 == 0))
		} else {
			t.Cells = append(t.Cells, shared(i/2, i%16))
		}
	}
	return t
}

// someCell returns a cell for a table.
func someCell(next func(int) int, t api.Table) api.TableCell {
	slot, offset, send := next(t.Length-1), next(15), next(1) == 0
	peer := (t.Node + 1 + next(2)) % 32
	switch next(2) {
	case 0:
		return control(slot, offset, peer, next(3), send)
	case 1:
		return agreed(slot, offset, peer, send)
	}
	return shared(slot, offset)
}

// someTable returns a right table.
func someTable(next func(int) int) api.Table {
	t := table(next(31), 1+next(11))
	for range next(2 * t.Length) {
		c := someCell(next, t)
		if !slices.ContainsFunc(t.Cells, func(d api.TableCell) bool { return d.Slot == c.Slot && d.Kind == c.Kind }) {
			t.Cells = append(t.Cells, c)
		}
	}
	slices.SortFunc(t.Cells, func(a, b api.TableCell) int { return cmp.Or(a.Slot-b.Slot, a.Kind-b.Kind) })
	return t
}

// someMask returns a mask for a length, with many bits that are not set.
func someMask(next func(int) int, length int) api.Free {
	f := api.Free{}
	for range length {
		f = append(f, next(65535)&next(65535)&next(65535)*next(1))
	}
	return f
}

// someSchedule returns a schedule that has its form.
func someSchedule(next func(int) int) api.Schedule {
	s := api.Schedule{Length: 1 + next(9), Offsets: 1 + next(15)}
	for range next(2 * s.Length) {
		from := next(31)
		s.Cells = append(s.Cells, api.Cell{Slot: next(s.Length - 1), Offset: next(s.Offsets - 1), From: from, To: (from + 1 + next(30)) % 32, Flow: next(300)})
	}
	return s
}

// example is the schedule of the chapter's example.
func example() api.Schedule {
	return api.Schedule{Length: 4, Offsets: 2, Cells: []api.Cell{{Slot: 0, Offset: 1, From: 1, To: 0, Flow: 5}, {Slot: 2, Offset: 0, From: 0, To: 2, Flow: 5}}}
}

// P16.1, P16.2, P16.4: the example of the chapter.
func TestExample(t *testing.T) {
	own, e := celltable.Of(example(), 0)
	if !same(own, table(0, 4, control(0, 1, 1, 5, false), control(2, 0, 2, 5, true))) || e != api.OK {
		t.Fatal(own, e)
	}
	f, e := celltable.Mask(example())
	if !slices.Equal(f, api.Free{1, 3, 2, 3}) || e != api.OK {
		t.Error(f, e)
	}
	if l := celltable.Candidates(own, f, 9); !slices.Equal(l, []api.Spot{{Slot: 1}, {Slot: 3}}) {
		t.Error(l)
	}
	if c, ok := celltable.At(own, 6); c != own.Cells[1] || !ok {
		t.Error(c, ok)
	}
}

// wrong is a table that is not right, with its error.
type wrong struct {
	t api.Table
	e api.Errno
}

// wrongCells returns cells that do not have their form in base, with their errors.
func wrongCells() map[api.TableCell]api.Errno {
	l := map[api.TableCell]api.Errno{
		{}:                                     api.ErrArg,
		{Slot: 8, Peer: -1, Flow: -1}:          api.ErrArg,
		{Slot: 8, Kind: 4, Peer: 5, Flow: -1}:  api.ErrArg,
		{Slot: 8, Kind: -1, Peer: 5, Flow: -1}: api.ErrArg,
		{Slot: 8, Kind: math.MaxInt, Peer: -1, Flow: -1}:                 api.ErrArg,
		{Slot: 10, Offset: 16, Kind: 0, Peer: 4}:                         api.ErrArg, // ahead of ErrRange
		{Slot: 8, Kind: api.CellAgreed, Peer: 5, Flow: 0}:                api.ErrArg,
		{Slot: 8, Kind: api.CellAgreed, Peer: 5, Flow: -2}:               api.ErrArg,
		{Slot: 10, Offset: -1, Kind: api.CellAgreed, Peer: 4, Flow: 0}:   api.ErrArg,
		{Slot: 8, Kind: api.CellShared, Peer: -1, Flow: 0}:               api.ErrArg,
		{Slot: 8, Kind: api.CellShared, Peer: -1, Flow: -2}:              api.ErrArg,
		{Slot: 8, Kind: api.CellShared, Peer: 0, Flow: -1}:               api.ErrArg,
		{Slot: 8, Kind: api.CellShared, Peer: 4, Flow: -1}:               api.ErrArg,
		{Slot: 8, Kind: api.CellShared, Peer: -2, Flow: -1}:              api.ErrArg,
		{Slot: 8, Kind: api.CellShared, Peer: -1, Flow: -1, Send: true}:  api.ErrArg,
		{Slot: -1, Offset: 16, Kind: api.CellShared, Peer: -1, Flow: 1}:  api.ErrArg,
		{Slot: -1, Offset: 1, Kind: api.CellShared, Peer: 1, Flow: -1}:   api.ErrArg,
		{Slot: 10, Kind: api.CellShared, Peer: -1, Flow: -1, Send: true}: api.ErrArg,
		control(8, 0, 5, -1, true):                                       api.ErrRange,
		control(8, 0, 5, -2, false):                                      api.ErrRange,
		control(8, 0, -1, 0, true):                                       api.ErrRange,
		agreed(8, 0, -1, true):                                           api.ErrRange,
	}
	for _, n := range append([]int{-1, 10}, extremes...) {
		l[control(n, 0, 5, 0, true)], l[agreed(n, 0, 5, true)], l[shared(n, 0)] = api.ErrRange, api.ErrRange, api.ErrRange
	}
	for _, n := range append([]int{-1, 16}, extremes...) {
		l[control(8, n, 5, 0, true)], l[agreed(8, n, 5, true)], l[shared(8, n)] = api.ErrRange, api.ErrRange, api.ErrRange
	}
	for _, n := range append([]int{-1, 4, 32}, extremes...) { // 4 is the node
		l[control(8, 0, n, 0, true)], l[agreed(8, 0, n, false)] = api.ErrRange, api.ErrRange
	}
	return l
}

// wrongTables returns tables that are not right.
func wrongTables() []wrong {
	l := []wrong{
		{api.Table{}, api.ErrRange},
		{full(513), api.ErrTooLarge},
		{table(0, 512, make([]api.TableCell, 513)...), api.ErrTooLarge},
		{table(-1, 512, make([]api.TableCell, 513)...), api.ErrRange},
		{table(0, 0, make([]api.TableCell, 513)...), api.ErrRange},
		{table(0, 512, make([]api.TableCell, 512)...), api.ErrArg},
		{table(4, 10, shared(1, 0), shared(1, 0)), api.ErrOrder},
		{table(4, 10, shared(1, 0), shared(1, 1)), api.ErrOrder},
		{table(4, 10, control(1, 0, 5, 0, true), control(1, 1, 6, 1, false)), api.ErrOrder},
		{table(4, 10, agreed(1, 0, 5, true), agreed(1, 1, 6, false)), api.ErrOrder},
		{table(4, 10, shared(1, 0), shared(0, 0)), api.ErrOrder},
		{table(4, 10, shared(1, 0), agreed(1, 0, 5, true)), api.ErrOrder},
		{table(4, 10, shared(1, 0), control(1, 0, 5, 0, true)), api.ErrOrder},
		{table(4, 10, agreed(1, 0, 5, true), control(1, 0, 5, 0, true)), api.ErrOrder},
		{table(4, 10, shared(1, 0), control(0, 0, 5, 0, true)), api.ErrOrder},
		{table(4, 10, shared(0, 0), shared(1, 0), shared(2, 0), shared(2, 0)), api.ErrOrder},
		// The first cell with an error decides, and its first error.
		{table(4, 10, shared(1, 0), shared(0, 0), shared(10, 0)), api.ErrOrder},
		{table(4, 10, shared(1, 0), shared(10, 0), shared(0, 0)), api.ErrRange},
		{table(4, 10, shared(1, 0), api.TableCell{}, shared(0, 16)), api.ErrArg},
		{table(4, 10, shared(1, 0), shared(0, 16), api.TableCell{}), api.ErrRange},
		{table(4, 10, shared(1, 0), shared(-1, 0)), api.ErrRange},
		{table(4, 10, shared(1, 0), control(1, 0, 4, 0, true)), api.ErrRange},
	}
	for _, n := range append([]int{-1, 32}, extremes...) {
		l = append(l, wrong{table(n, 10), api.ErrRange}, wrong{table(n, 10, api.TableCell{}), api.ErrRange})
	}
	for _, n := range append([]int{-1, 0, 513}, extremes...) {
		l = append(l, wrong{table(4, n), api.ErrRange}, wrong{table(4, n, api.TableCell{}), api.ErrRange})
	}
	for c, e := range wrongCells() {
		front := base()
		front.Cells[0] = c
		l = append(l, wrong{front, e}, wrong{table(4, 10, c), e}, wrong{table(4, 10, shared(0, 0), shared(7, 0), c), e}, wrong{table(4, 10, shared(9, 0), c, api.TableCell{}), e})
	}
	return l
}

// P16.1 to P16.5, P1: tables that are not right.
func TestWrongTables(t *testing.T) {
	for _, x := range wrongTables() {
		if e := celltable.Check(x.t); e != x.e {
			t.Errorf("Check(%+v) = %v, want %v", x.t, e, x.e)
		}
		for _, n := range append([]int{0, 1, 2, 10}, extremes...) {
			if c, ok := celltable.At(x.t, n); c != (api.TableCell{}) || ok {
				t.Errorf("At(%+v, %d) = %+v", x.t, n, c)
			}
			if l := celltable.Between(x.t, n); len(l) > 0 {
				t.Errorf("Between(%+v, %d) = %+v", x.t, n, l)
			}
		}
		for _, c := range append([]api.TableCell{{}, shared(3, 0), shared(99, 0)}, x.t.Cells...) {
			if r, e := celltable.Add(x.t, c); !isZero(r) || e != api.ErrArg {
				t.Errorf("Add(%+v, %+v) = %+v %v", x.t, c, r, e)
			}
			if r, e := celltable.Remove(x.t, c); !isZero(r) || e != api.ErrArg {
				t.Errorf("Remove(%+v, %+v) = %+v %v", x.t, c, r, e)
			}
		}
		f := make(api.Free, max(0, min(x.t.Length, 1000)))
		for i := range f {
			f[i] = 1<<16 - 1
		}
		for slot := range len(f) + 1 {
			if celltable.Fits(x.t, f, api.Spot{Slot: slot}) {
				t.Errorf("Fits(%+v, %d)", x.t, slot)
			}
		}
		if l := celltable.Candidates(x.t, f, 5); len(l) > 0 {
			t.Errorf("Candidates(%+v) = %v", x.t, l)
		}
		if celltable.Mirror(x.t, table((x.t.Node+1)&31, x.t.Length)) || celltable.Mirror(table((x.t.Node+1)&31, x.t.Length), x.t) || celltable.Mirror(x.t, x.t) {
			t.Errorf("%+v has a mirror", x.t)
		}
	}
}

// P16.1: right tables, at the limits.
func TestCheck(t *testing.T) {
	for _, x := range []api.Table{
		base(), table(0, 1), table(31, 512), full(512), full(511),
		table(0, 1, control(0, 0, 1, 0, false), agreed(0, 0, 1, true), shared(0, 0)),
		table(31, 512, control(0, 15, 30, math.MaxInt, true), agreed(0, 15, 0, false), control(511, 0, 0, 0, true), shared(511, 15)),
		table(0, 512, agreed(511, 15, 31, true)),
	} {
		if e := celltable.Check(x); e != api.OK {
			t.Errorf("Check(%+v) = %v", x, e)
		}
	}
	next := random(1)
	for range 1000 {
		if x := someTable(next); celltable.Check(x) != api.OK {
			t.Errorf("%+v is not right", x)
		}
	}
}

// wrongSchedules returns schedules that do not have their form.
func wrongSchedules() []api.Schedule {
	l := []api.Schedule{{}, {Length: 1}, {Offsets: 1}, {Length: 4, Offsets: 2, Cells: make([]api.Cell, 1)}}
	many := api.Schedule{Length: 4, Offsets: 2}
	for range 513 {
		many.Cells = append(many.Cells, example().Cells[0])
	}
	l = append(l, many)
	change := func(f func(s *api.Schedule)) {
		s := example()
		f(&s)
		l = append(l, s)
	}
	for _, n := range append([]int{-1}, extremes...) {
		change(func(s *api.Schedule) { s.Length = n })
		change(func(s *api.Schedule) { s.Offsets = n })
		for i := range 2 {
			change(func(s *api.Schedule) { s.Cells[i].Slot = n })
			change(func(s *api.Schedule) { s.Cells[i].Offset = n })
			change(func(s *api.Schedule) { s.Cells[i].From = n })
			change(func(s *api.Schedule) { s.Cells[i].To = n })
			change(func(s *api.Schedule) { s.Cells[i].Flow = min(n, -n) })
		}
	}
	change(func(s *api.Schedule) { s.Length = 0 })
	change(func(s *api.Schedule) { s.Length = 513 })
	change(func(s *api.Schedule) { s.Length = 2 })
	change(func(s *api.Schedule) { s.Offsets = 0 })
	change(func(s *api.Schedule) { s.Offsets = 1 })
	change(func(s *api.Schedule) { s.Offsets = 17 })
	change(func(s *api.Schedule) { s.Cells[1].Slot = 4 })
	change(func(s *api.Schedule) { s.Cells[1].Offset = 2 })
	change(func(s *api.Schedule) { s.Cells[1].From = 32 })
	change(func(s *api.Schedule) { s.Cells[1].To = 32 })
	change(func(s *api.Schedule) { s.Cells[1].To = 0 })
	return l
}

// P16.1, P1: the errors of Of and Mask, and which one goes first.
func TestOfErrors(t *testing.T) {
	fails := func(s api.Schedule, node int, want api.Errno) {
		t.Helper()
		if r, e := celltable.Of(s, node); !isZero(r) || e != want {
			t.Errorf("Of(%+v, %d) = %+v %v, want %v", s, node, r, e, want)
		}
	}
	for _, s := range wrongSchedules() {
		for _, node := range []int{-1, 0, 1, 2, 31, 32} {
			fails(s, node, api.ErrArg)
		}
		if f, e := celltable.Mask(s); len(f) > 0 || e != api.ErrArg {
			t.Errorf("Mask(%+v) = %v %v", s, f, e)
		}
	}
	twice := example()
	twice.Cells = append(twice.Cells, twice.Cells...)
	for _, node := range append([]int{-1, 32}, extremes...) {
		fails(example(), node, api.ErrRange)
		fails(twice, node, api.ErrRange)
	}
	for _, c := range []api.Cell{{Slot: 2, Offset: 0, From: 0, To: 2, Flow: 5}, {Slot: 2, Offset: 1, From: 3, To: 0, Flow: 6}, {Slot: 0, Offset: 0, From: 0, To: 7, Flow: 0}, {Slot: 0, Offset: 0, From: 7, To: 0, Flow: 0}} {
		for i := range 3 {
			s := example()
			s.Cells = slices.Insert(s.Cells, i, c)
			fails(s, 0, api.ErrConflict)
			if r, e := celltable.Of(s, 9); !same(r, table(9, 4)) || e != api.OK {
				t.Error(c, i, r, e)
			}
		}
	}
}

// P16.1, P16.6: random schedules in any order. Each cell is in the tables of two nodes, and its offset is not in the mask.
func TestOf(t *testing.T) {
	next := random(2)
	conflicts := 0
	for range 2000 {
		s := someSchedule(next)
		kept := slices.Clone(s.Cells)
		mask, e := celltable.Mask(s)
		if len(mask) != s.Length || e != api.OK {
			t.Fatal(mask, e)
		}
		for slot, bits := range mask {
			for offset := range 17 {
				taken := slices.ContainsFunc(s.Cells, func(c api.Cell) bool { return c.Slot == slot && c.Offset == offset })
				if free := offset < s.Offsets && !taken; (bits>>offset&1 == 1) != free {
					t.Fatalf("Mask(%+v) = %v", s, mask)
				}
			}
			if bits>>17 != 0 {
				t.Fatalf("Mask(%+v) = %v", s, mask)
			}
		}
		for node := range 32 {
			want, twice := table(node, s.Length), false
			for slot := range s.Length {
				n := 0
				for _, c := range s.Cells {
					if c.Slot != slot || c.From != node && c.To != node {
						continue
					}
					n++
					if c.From == node {
						want.Cells = append(want.Cells, control(slot, c.Offset, c.To, c.Flow, true))
					} else {
						want.Cells = append(want.Cells, control(slot, c.Offset, c.From, c.Flow, false))
					}
				}
				twice = twice || n > 1
			}
			got, e := celltable.Of(s, node)
			if twice {
				conflicts++
				if !isZero(got) || e != api.ErrConflict {
					t.Fatalf("Of(%+v, %d) = %+v %v", s, node, got, e)
				}
			} else if !same(got, want) || e != api.OK || celltable.Check(got) != api.OK {
				t.Fatalf("Of(%+v, %d) = %+v %v, want %+v", s, node, got, e, want)
			}
		}
		if !slices.Equal(s.Cells, kept) {
			t.Fatal("the schedule is changed")
		}
	}
	if conflicts < 100 {
		t.Error(conflicts)
	}
}

// P16.1: schedules at the limits.
func TestLargeSchedules(t *testing.T) {
	s := api.Schedule{Length: 512, Offsets: 16}
	for slot := range 512 {
		s.Cells = append(s.Cells, api.Cell{Slot: 511 - slot, Offset: slot % 16, From: 31, To: slot % 31, Flow: math.MaxInt - slot})
	}
	own, e := celltable.Of(s, 31)
	if len(own.Cells) != 512 || e != api.OK || celltable.Check(own) != api.OK || own.Cells[511] != control(511, 0, 0, math.MaxInt, true) {
		t.Error(len(own.Cells), e)
	}
	f, e := celltable.Mask(s)
	if len(f) != 512 || e != api.OK || f[511] != 65534 || f[510] != 65533 || f[496] != 32767 {
		t.Error(f, e)
	}
	if f, e := celltable.Mask(api.Schedule{Length: 1, Offsets: 16}); !slices.Equal(f, api.Free{65535}) || e != api.OK {
		t.Error(f, e)
	}
	if f, e := celltable.Mask(api.Schedule{Length: 2, Offsets: 1, Cells: []api.Cell{{Slot: 1, To: 1}, {Slot: 1, To: 1}}}); !slices.Equal(f, api.Free{1, 0}) || e != api.OK {
		t.Error(f, e)
	}
}

// inForce returns the cell in force by the definition.
func inForce(x api.Table, slot int) (api.TableCell, bool) {
	for kind := 1; kind <= 3; kind++ {
		for _, c := range x.Cells {
			if c.Kind == kind && c.Slot == slot%x.Length {
				return c, true
			}
		}
	}
	return api.TableCell{}, false
}

// P16.2: control cells go ahead of agreed ones, and these of shared ones; slots of later slotframes, and negative ones.
func TestAt(t *testing.T) {
	x := base()
	for slot, want := range map[int]int{0: 0, 2: 1, 5: 4, 7: 5, 9: 6, 10: 0, 12: 1, 1000000000000000002: 1, 1000000000000000009: 6, math.MaxInt: 5} {
		if c, ok := celltable.At(x, slot); c != x.Cells[want] || !ok {
			t.Errorf("At(%d) = %+v %v", slot, c, ok)
		}
	}
	for _, slot := range []int{1, 3, 4, 6, 8, 11, 18, -1, -3, -5, -8, -10, math.MinInt} {
		if c, ok := celltable.At(x, slot); c != (api.TableCell{}) || ok {
			t.Errorf("At(%d) = %+v %v", slot, c, ok)
		}
	}
	next := random(3)
	for range 1000 {
		x := someTable(next)
		for slot := range 40 {
			c, ok := celltable.At(x, slot)
			if want, is := inForce(x, slot); c != want || ok != is {
				t.Fatalf("At(%+v, %d) = %+v %v", x, slot, c, ok)
			}
		}
	}
}

// P16.2: the agreed cells with a neighbour, and no others.
func TestBetween(t *testing.T) {
	x := table(4, 10, agreed(0, 1, 5, true), control(1, 0, 5, 0, true), agreed(1, 2, 6, true), shared(1, 1), agreed(2, 3, 5, false), agreed(9, 0, 5, true))
	for peer, want := range map[int][]api.TableCell{5: {x.Cells[0], x.Cells[4], x.Cells[5]}, 6: {x.Cells[2]}, 0: nil, 4: nil, -1: nil, 32: nil, math.MinInt: nil} {
		if l := celltable.Between(x, peer); !slices.Equal(l, want) {
			t.Errorf("Between(%d) = %+v", peer, l)
		}
	}
	l := celltable.Between(x, 5)
	l[0].Offset = 9
	if x.Cells[0].Offset != 1 {
		t.Error("the result shares memory with the table")
	}
}

// P16.3: cells in front, in between and behind, and the errors.
func TestAdd(t *testing.T) {
	for c, at := range map[api.TableCell]int{
		control(0, 1, 0, 0, true):  0,
		agreed(0, 3, 5, true):      0,
		shared(1, 3):               1,
		control(5, 2, 31, 9, true): 4,
		shared(5, 2):               5,
		agreed(7, 0, 1, false):     5,
		agreed(9, 9, 0, false):     7,
		shared(9, 15):              7,
	} {
		x := clone(base())
		want := slices.Insert(base().Cells, at, c)
		r, e := celltable.Add(x, c)
		if !same(r, table(4, 10, want...)) || e != api.OK {
			t.Errorf("Add(%+v) = %+v %v", c, r, e)
		}
		x.Cells = append(x.Cells, shared(9, 9))
		r.Cells[0].Offset++
		if !slices.Equal(x.Cells[:7], base().Cells) || !slices.Equal(r.Cells[1:], want[1:]) {
			t.Errorf("Add(%+v) shares memory with the table", c)
		}
	}
	for c, want := range wrongCells() {
		if r, e := celltable.Add(base(), c); !isZero(r) || e != want {
			t.Errorf("Add(%+v) = %+v %v, want %v", c, r, e, want)
		}
	}
	for _, c := range []api.TableCell{shared(0, 3), shared(0, 4), control(2, 1, 6, 8, false), agreed(2, 0, 1, true), shared(7, 1), control(9, 9, 0, 0, true)} {
		if r, e := celltable.Add(base(), c); !isZero(r) || e != api.ErrConflict {
			t.Errorf("Add(%+v) = %+v %v", c, r, e)
		}
	}
}

// P16.3, P1: tables of MaxCells cells, and of one less.
func TestAddToFull(t *testing.T) {
	x := full(512)
	if r, e := celltable.Add(x, shared(511, 0)); !isZero(r) || e != api.ErrTooLarge {
		t.Error(len(r.Cells), e)
	}
	if r, e := celltable.Add(x, x.Cells[100]); !isZero(r) || e != api.ErrConflict {
		t.Error(len(r.Cells), e)
	}
	if r, e := celltable.Add(x, shared(512, 0)); !isZero(r) || e != api.ErrRange {
		t.Error(len(r.Cells), e)
	}
	if r, e := celltable.Add(x, api.TableCell{}); !isZero(r) || e != api.ErrArg {
		t.Error(len(r.Cells), e)
	}
	if r, e := celltable.Add(full(511), shared(511, 0)); len(r.Cells) != 512 || e != api.OK || celltable.Check(r) != api.OK {
		t.Error(len(r.Cells), e)
	}
	if r, e := celltable.Remove(x, x.Cells[511]); !same(r, full(511)) || e != api.OK {
		t.Error(len(r.Cells), e)
	}
}

// P16.3: each cell can be removed; one that differs in any field is not in the table.
func TestRemove(t *testing.T) {
	for i, c := range base().Cells {
		x := clone(base())
		r, e := celltable.Remove(x, c)
		if !same(r, table(4, 10, slices.Delete(base().Cells, i, i+1)...)) || e != api.OK || celltable.Check(r) != api.OK {
			t.Errorf("Remove(%+v) = %+v %v", c, r, e)
		}
		r.Cells[0].Offset++
		if !slices.Equal(x.Cells, base().Cells) {
			t.Errorf("Remove(%+v) shares memory with the table", c)
		}
		for k := range 6 {
			d := c
			switch k {
			case 0:
				d.Slot++
			case 1:
				d.Offset ^= 1
			case 2:
				d.Kind = d.Kind%3 + 1
			case 3:
				d.Send = !d.Send
			case 4:
				d.Peer ^= 3
			case 5:
				d.Flow--
			}
			if r, e := celltable.Remove(base(), d); !isZero(r) || e != api.ErrNotFound {
				t.Errorf("Remove(%+v) = %+v %v", d, r, e)
			}
		}
	}
	for c := range wrongCells() {
		if r, e := celltable.Remove(base(), c); !isZero(r) || e != api.ErrNotFound {
			t.Errorf("Remove(%+v) = %+v %v", c, r, e)
		}
	}
	if r, e := celltable.Remove(table(4, 10), shared(0, 0)); !isZero(r) || e != api.ErrNotFound {
		t.Error(r, e)
	}
	if r, e := celltable.Remove(table(4, 10, shared(0, 0)), shared(0, 0)); !same(r, table(4, 10)) || e != api.OK {
		t.Error(r, e)
	}
}

// P16.3, P16.6: removing what was added leads back.
func TestAddAndRemove(t *testing.T) {
	next := random(4)
	added := 0
	for range 5000 {
		x := someTable(next)
		c := someCell(next, x)
		more, e := celltable.Add(x, c)
		if e != api.OK {
			is := slices.ContainsFunc(x.Cells, func(d api.TableCell) bool { return d.Slot == c.Slot && d.Kind == c.Kind })
			if !is || e != api.ErrConflict {
				t.Fatalf("Add(%+v, %+v): %v", x, c, e)
			}
			continue
		}
		added++
		if celltable.Check(more) != api.OK || len(more.Cells) != len(x.Cells)+1 || !slices.Contains(more.Cells, c) {
			t.Fatalf("Add(%+v, %+v) = %+v", x, c, more)
		}
		if back, e := celltable.Remove(more, c); !same(back, x) || e != api.OK {
			t.Fatalf("Remove(%+v, %+v) = %+v %v", more, c, back, e)
		}
	}
	if added < 1000 {
		t.Error(added)
	}
}

// fits says by the definition whether a place fits a right table and a mask of its length.
func fits(x api.Table, f api.Free, s api.Spot) bool {
	for slot := range x.Length {
		for offset := range 16 {
			if s == (api.Spot{Slot: slot, Offset: offset}) {
				taken := slices.ContainsFunc(x.Cells, func(c api.TableCell) bool { return c.Slot == slot })
				return !taken && f[slot]>>offset%2 == 1
			}
		}
	}
	return false
}

// P16.4: random tables and masks, with places within and without.
func TestFits(t *testing.T) {
	next := random(5)
	fitting := 0
	for range 1000 {
		x := someTable(next)
		f := someMask(next, x.Length)
		var all []api.Spot
		for slot := -1; slot <= x.Length; slot++ {
			first := true
			for offset := -1; offset <= 16; offset++ {
				s := api.Spot{Slot: slot, Offset: offset}
				want := fits(x, f, s)
				if celltable.Fits(x, f, s) != want {
					t.Fatalf("Fits(%+v, %v, %v) = %v", x, f, s, !want)
				}
				if want && first {
					all, first = append(all, s), false
				}
			}
		}
		fitting += len(all)
		for n := -1; n <= x.Length+1; n++ {
			want := all[:max(0, min(n, len(all)))]
			if l := celltable.Candidates(x, f, n); !slices.Equal(l, want) {
				t.Fatalf("Candidates(%+v, %v, %d) = %v, want %v", x, f, n, l, want)
			}
		}
		for _, n := range extremes {
			want := all
			if n < 0 {
				want = nil
			}
			if l := celltable.Candidates(x, f, n); !slices.Equal(l, want) {
				t.Fatalf("Candidates(%+v, %v, %d) = %v, want %v", x, f, n, l, want)
			}
			for _, s := range []api.Spot{{Slot: n}, {Offset: n}, {Slot: n, Offset: n}} {
				if celltable.Fits(x, f, s) {
					t.Fatalf("Fits(%+v, %v, %v)", x, f, s)
				}
			}
		}
	}
	if fitting < 1000 {
		t.Error(fitting)
	}
}

// P16.4: masks of another length, or with elements that are out of range, wherever they are.
func TestWrongMasks(t *testing.T) {
	x := table(4, 4, shared(1, 0))
	right := api.Free{65535, 65535, 0, 1 << 15}
	if l := celltable.Candidates(x, right, 4); !slices.Equal(l, []api.Spot{{Slot: 0, Offset: 0}, {Slot: 3, Offset: 15}}) {
		t.Error(l)
	}
	wrong := []api.Free{nil, {}, right[:3], append(slices.Clone(right), 1), make(api.Free, 8)}
	for i := range right {
		for _, n := range append([]int{-1, 65536}, extremes...) {
			f := slices.Clone(right)
			f[i] = n
			wrong = append(wrong, f)
		}
	}
	for _, f := range wrong {
		if celltable.Fits(x, f, api.Spot{}) || celltable.Fits(x, f, api.Spot{Slot: 3, Offset: 15}) {
			t.Errorf("something fits %v", f)
		}
		if l := celltable.Candidates(x, f, 4); len(l) > 0 {
			t.Errorf("Candidates with %v: %v", f, l)
		}
	}
}

// P16.5: agreed cells that differ in one thing, cells with others, and tables of one node or of two lengths.
func TestMirror(t *testing.T) {
	left := func(cells ...api.TableCell) api.Table { return table(4, 10, cells...) }
	right := func(cells ...api.TableCell) api.Table { return table(5, 10, cells...) }
	for i, x := range []struct {
		a, b api.Table
		is   bool
	}{
		{left(), right(), true},
		{left(agreed(0, 1, 5, true)), right(agreed(0, 1, 4, false)), true},
		{left(agreed(0, 1, 5, false)), right(agreed(0, 1, 4, true)), true},
		{left(agreed(0, 1, 5, true), agreed(3, 2, 5, false)), right(agreed(0, 1, 4, false), agreed(3, 2, 4, true)), true},
		{left(agreed(0, 1, 5, true)), right(agreed(0, 1, 4, true)), false},
		{left(agreed(0, 1, 5, false)), right(agreed(0, 1, 4, false)), false},
		{left(agreed(0, 1, 5, true)), right(agreed(0, 2, 4, false)), false},
		{left(agreed(0, 1, 5, true)), right(agreed(1, 1, 4, false)), false},
		{left(agreed(0, 1, 5, true)), right(), false},
		{left(), right(agreed(0, 1, 4, true)), false},
		{left(agreed(0, 1, 5, true), agreed(3, 2, 5, false)), right(agreed(0, 1, 4, false)), false},
		{left(agreed(0, 1, 5, true), agreed(3, 2, 5, false)), right(agreed(3, 2, 4, true)), false},
		{left(agreed(0, 1, 5, true), agreed(3, 2, 5, false)), right(agreed(0, 1, 4, false), agreed(3, 2, 4, false)), false},
		// Cells of other kinds and with other nodes do not matter.
		{left(control(0, 1, 5, 0, true), agreed(0, 1, 5, true), shared(0, 0), agreed(1, 1, 6, true)), right(agreed(0, 1, 4, false), agreed(2, 1, 6, true), control(3, 0, 4, 1, true), shared(9, 0)), true},
		{left(agreed(0, 1, 6, true)), right(agreed(0, 1, 4, false)), false},
		{left(control(0, 1, 5, 0, true)), right(agreed(0, 1, 4, false)), false},
		{left(control(0, 1, 5, 0, true)), right(control(0, 1, 4, 0, true)), true},
		{left(), left(), false},
		{left(agreed(0, 1, 5, true)), left(agreed(0, 1, 5, false)), false},
		{left(), table(5, 11), false},
		{table(0, 1), table(31, 1), true},
		{left(), table(32, 10), false},
		{left(), right(shared(10, 0)), false},
	} {
		if celltable.Mirror(x.a, x.b) != x.is || celltable.Mirror(x.b, x.a) != x.is {
			t.Error(i, x.a, x.b)
		}
	}
}

// P16.6: cells that are added at candidates are in force; and Mirror holds if both nodes add the same places, but not before the second one has.
func TestCandidatesMirror(t *testing.T) {
	next := random(6)
	added := 0
	for range 1000 {
		s := someSchedule(next)
		a, e := celltable.Of(s, 3)
		b, f := celltable.Of(s, 8)
		if e != api.OK || f != api.OK {
			continue
		}
		mask, _ := celltable.Mask(s)
		for _, spot := range celltable.Candidates(a, mask, 1+next(9)) {
			if !celltable.Fits(a, mask, spot) {
				t.Fatalf("%v does not fit %+v", spot, a)
			}
			if !celltable.Fits(b, mask, spot) {
				continue
			}
			send := next(1) == 0
			mine, yours := agreed(spot.Slot, spot.Offset, 8, send), agreed(spot.Slot, spot.Offset, 3, !send)
			a, e = celltable.Add(a, mine)
			if e != api.OK || celltable.Mirror(a, b) || celltable.Mirror(b, a) {
				t.Fatalf("Add(%+v): %+v %v", mine, a, e)
			}
			b, e = celltable.Add(b, yours)
			if e != api.OK || !celltable.Mirror(a, b) || !celltable.Mirror(b, a) {
				t.Fatalf("Add(%+v): %+v %v", yours, b, e)
			}
			c, _ := celltable.At(a, spot.Slot)
			d, _ := celltable.At(b, spot.Slot+7*s.Length)
			if c != mine || d != yours || celltable.Fits(a, mask, spot) {
				t.Fatalf("%+v and %+v are not in force", mine, yours)
			}
			added++
		}
	}
	if added < 500 {
		t.Error(added)
	}
}

// P16.1 to P16.5: arguments stay as they were, results are new memory, nil and empty lists are alike.
func TestArgumentsStay(t *testing.T) {
	x, y, f, s := clone(base()), clone(table(0, 10, agreed(2, 15, 4, true))), make(api.Free, 10), example()
	for i := range f {
		f[i] = i
	}
	celltable.Check(x)
	celltable.At(x, 2)
	celltable.Fits(x, f, api.Spot{Slot: 1})
	celltable.Candidates(x, f, 3)
	celltable.Mirror(x, y)
	celltable.Of(s, 0)
	celltable.Mask(s)
	if !same(x, base()) || !same(y, table(0, 10, agreed(2, 15, 4, true))) || !slices.Equal(f, api.Free{0, 1, 2, 3, 4, 5, 6, 7, 8, 9}) || !reflect.DeepEqual(s, example()) {
		t.Error("an argument is changed")
	}
	one, _ := celltable.Mask(s)
	two, _ := celltable.Mask(s)
	one[0] = 9
	left, _ := celltable.Of(s, 0)
	right, _ := celltable.Of(s, 0)
	left.Cells[0].Offset = 9
	if two[0] != 1 || right.Cells[0].Offset != 1 {
		t.Error("two results share memory")
	}
	for _, cells := range [][]api.TableCell{nil, {}} {
		x := api.Table{Node: 4, Length: 10, Cells: cells}
		if r, e := celltable.Add(x, shared(1, 0)); celltable.Check(x) != api.OK || !same(r, table(4, 10, shared(1, 0))) || e != api.OK {
			t.Error("nil and empty lists differ")
		}
	}
}
