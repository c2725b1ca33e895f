package geometry_test

import (
	"math"
	"math/big"
	"reflect"
	"slices"
	"testing"

	"hopmesh/api"
	"hopmesh/geometry"
)

const (
	most = 10000 // the greatest coordinate
	far  = 20000 // the greatest coordinate for Square and Crosses
)

// extremes are numbers that nothing allows.
var extremes = []int{math.MinInt, math.MinInt + 1, -1 << 33, -1000, -2, math.MaxInt - 1, math.MaxInt}

// xy returns a point.
func xy(x, y int) api.Point { return api.Point{X: x, Y: y} }

// wall returns a wall.
func wall(x, y, u, v, factor int) api.Wall { return api.Wall{A: xy(x, y), B: xy(u, v), Factor: factor} }

// room returns the site of the chapter's examples: three nodes in a row, without walls.
func room() api.Site {
	return api.Site{Nodes: []api.Point{xy(0, 0), xy(30, 0), xy(90, 0)}, Powers: []int{90000, 90000, 90000}, Exponent: 2, Noise: 10, Threshold: 2000}
}

// row returns a site with n nodes at one point each, and as many powers.
func row(n int) api.Site {
	s := api.Site{Exponent: 2, Noise: 1, Threshold: 1000}
	for i := range n {
		s.Nodes = append(s.Nodes, xy(i, 2*i))
		s.Powers = append(s.Powers, i)
	}
	return s
}

// walls returns n walls with a factor.
func walls(n, factor int) []api.Wall {
	l := make([]api.Wall, n)
	for i := range l {
		l[i].Factor = factor
	}
	return l
}

// with returns the site of the examples after a change.
func with(change func(s *api.Site)) api.Site {
	s := room()
	change(&s)
	return s
}

// random returns a function that gives numbers from 0 to most, which follow from a seed.
func random(seed uint64) func(most int) int {
	return func(most int) int {
		seed = seed*6364136223846793005 + 1442695040888963407
		return int(seed>>16) % (most + 1)
	}
}

// randomSite returns a site whose nodes and walls are so near to one another that many paths cross walls.
func randomSite(roll func(int) int) api.Site {
	s := api.Site{Exponent: 2 + 2*roll(1), Noise: 1 + roll(50), Threshold: 1000 + roll(3000)}
	side := []int{3, 12, 60, 400}[roll(3)]
	for range 2 + roll(6) {
		s.Nodes = append(s.Nodes, xy(roll(side), roll(side)))
		s.Powers = append(s.Powers, roll(1<<roll(36)))
	}
	for range roll(5) {
		s.Walls = append(s.Walls, wall(roll(side), roll(side), roll(side), roll(side), roll(1000)))
	}
	return s
}

// cross returns the cross product of b - a and d - c.
func cross(a, b, c, d api.Point) int { return (b.X-a.X)*(d.Y-c.Y) - (b.Y-a.Y)*(d.X-c.X) }

// lies decides whether p lies between a and b, on their line.
func lies(p, a, b api.Point) bool {
	return cross(a, p, a, b) == 0 && (a.X-p.X)*(b.X-p.X)+(a.Y-p.Y)*(b.Y-p.Y) <= 0
}

// common decides whether two segments have a point in common, by the place where their lines meet.
func common(a, b, c, d api.Point) bool {
	scale := cross(a, b, c, d)
	if scale == 0 {
		return lies(a, c, d) || lies(b, c, d) || lies(c, a, b) || lies(d, a, b)
	}
	first, second := cross(a, c, c, d), cross(a, c, a, b)
	if scale < 0 {
		scale, first, second = -scale, -first, -second
	}
	return first >= 0 && first <= scale && second >= 0 && second <= scale
}

// arrives computes a power with numbers of any size.
func arrives(s api.Site, from api.Point, power int, to api.Point) int {
	m := new(big.Int).SetInt64(int64((from.X-to.X)*(from.X-to.X) + (from.Y-to.Y)*(from.Y-to.Y)))
	if hundred := big.NewInt(100); m.Cmp(hundred) < 0 {
		m = hundred
	}
	p := big.NewInt(int64(power))
	for range s.Exponent / 2 {
		p.Mul(p, big.NewInt(100))
		p.Div(p, m)
	}
	for _, w := range s.Walls {
		if common(from, to, w.A, w.B) {
			p.Mul(p, big.NewInt(int64(w.Factor)))
			p.Div(p, big.NewInt(1000))
		}
	}
	return int(p.Int64())
}

// P5.1: which sites are valid.
func TestCheckValid(t *testing.T) {
	for i, s := range []api.Site{
		room(), row(2), row(3), row(31), row(32),
		with(func(s *api.Site) { s.Nodes[0], s.Nodes[1], s.Nodes[2] = xy(0, most), xy(most, 0), xy(most, most) }),
		with(func(s *api.Site) { s.Nodes[1] = s.Nodes[0] }),
		with(func(s *api.Site) { s.Powers = []int{0, 1, api.MaxPower} }),
		with(func(s *api.Site) { s.Walls = walls(1, 0) }),
		with(func(s *api.Site) { s.Walls = walls(31, 1000) }),
		with(func(s *api.Site) { s.Walls = walls(32, 1) }),
		with(func(s *api.Site) { s.Walls = []api.Wall{wall(0, most, most, 0, 999), wall(most, most, 0, 0, 1000)} }),
		with(func(s *api.Site) { s.Exponent = 4 }),
		with(func(s *api.Site) { s.Noise = 1 }),
		with(func(s *api.Site) { s.Noise = api.MaxPower }),
		with(func(s *api.Site) { s.Threshold = 1000 }),
		with(func(s *api.Site) { s.Threshold = 100000 }),
	} {
		if e := geometry.Check(s); e != api.OK {
			t.Errorf("%d: %v", i, e)
		}
	}
}

// wrongSites returns sites that each have one fault.
func wrongSites() []api.Site {
	l := []api.Site{
		{}, row(0), row(1), row(33), row(100),
		with(func(s *api.Site) { s.Powers = s.Powers[:2] }),
		with(func(s *api.Site) { s.Powers = nil }),
		with(func(s *api.Site) { s.Powers = append(s.Powers, 1) }),
		with(func(s *api.Site) { s.Nodes = s.Nodes[:2] }),
		with(func(s *api.Site) { s.Nodes, s.Powers = s.Nodes[:1], s.Powers[:1] }),
		with(func(s *api.Site) { s.Walls = walls(33, 500) }),
		with(func(s *api.Site) { s.Walls = walls(1000, 500) }),
	}
	numbers := func(change func(s *api.Site, n int), wrong ...int) {
		for _, n := range append(wrong, extremes...) {
			l = append(l, with(func(s *api.Site) { change(s, n) }))
		}
	}
	for i := range 3 {
		numbers(func(s *api.Site, n int) { s.Nodes[i].X = n }, -1, most+1)
		numbers(func(s *api.Site, n int) { s.Nodes[i].Y = n }, -1, most+1)
		numbers(func(s *api.Site, n int) { s.Powers[i] = n }, -1, api.MaxPower+1)
		wrongWall := func(change func(w *api.Wall, n int), wrong ...int) {
			numbers(func(s *api.Site, n int) { s.Walls = walls(3, 500); change(&s.Walls[i], n) }, wrong...)
		}
		wrongWall(func(w *api.Wall, n int) { w.A.X = n }, -1, most+1)
		wrongWall(func(w *api.Wall, n int) { w.A.Y = n }, -1, most+1)
		wrongWall(func(w *api.Wall, n int) { w.B.X = n }, -1, most+1)
		wrongWall(func(w *api.Wall, n int) { w.B.Y = n }, -1, most+1)
		wrongWall(func(w *api.Wall, n int) { w.Factor = n }, -1, 1001)
	}
	numbers(func(s *api.Site, n int) { s.Exponent = n }, -4, -1, 0, 1, 3, 5, 6, 8)
	numbers(func(s *api.Site, n int) { s.Noise = n }, -1, 0, api.MaxPower+1)
	numbers(func(s *api.Site, n int) { s.Threshold = n }, -1, 0, 1, 999, 100001)
	return l
}

// P5.1 to P5.3: a site with any fault is not valid, which is named before all other errors.
func TestWrongSites(t *testing.T) {
	for i, s := range wrongSites() {
		if e := geometry.Check(s); e != api.ErrArg {
			t.Errorf("%d: Check: %v", i, e)
		}
		for _, x := range []struct {
			p    api.Point
			n    int
			node int
		}{{xy(0, 0), 5, 0}, {xy(-1, 0), -1, -1}, {xy(0, most+1), api.MaxPower + 1, 40}} {
			if n, e := geometry.At(s, x.p, x.n, x.p); n != 0 || e != api.ErrArg {
				t.Errorf("%d: At: %d %v", i, n, e)
			}
			if n, e := geometry.Between(s, x.node, x.node); n != 0 || e != api.ErrArg {
				t.Errorf("%d: Between: %d %v", i, n, e)
			}
			if n, e := geometry.Nearest(s, x.p); n != 0 || e != api.ErrArg {
				t.Errorf("%d: Nearest: %d %v", i, n, e)
			}
			if l, e := geometry.Hears(s, x.node); len(l) != 0 || e != api.ErrArg {
				t.Errorf("%d: Hears: %v %v", i, l, e)
			}
		}
		if l, e := geometry.Table(s); len(l) != 0 || e != api.ErrArg {
			t.Errorf("%d: Table: %v %v", i, l, e)
		}
	}
}

// P5.1: squares of distances.
func TestSquare(t *testing.T) {
	for _, x := range []struct{ x, y, u, v, want int }{
		{0, 0, 0, 0, 0}, {7, 9, 7, 9, 0}, {0, 0, 3, 4, 25}, {0, 0, 30, 0, 900}, {0, 0, 0, 30, 900}, {1, 2, 4, 6, 25}, {4, 6, 1, 2, 25}, {1, 6, 4, 2, 25},
		{-1, 0, 0, 0, 1}, {-1, -1, 1, 1, 8}, {0, 0, most, most, 200000000}, {most + 1, -1, 0, 0, 100020002},
		{-far, -far, far, far, 3200000000}, {far, -far, -far, far, 3200000000}, {-far, 0, far, 0, 1600000000}, {0, far, 0, -far, 1600000000}, {far, far, far, far, 0},
	} {
		if n := geometry.Square(xy(x.x, x.y), xy(x.u, x.v)); n != x.want {
			t.Errorf("%v: %d", x, n)
		}
	}
}

// P5.1: which paths cross a wall, from the chapter's examples to ends that are equal.
func TestCrosses(t *testing.T) {
	for _, x := range []struct {
		a, b api.Point
		w    api.Wall
		want bool
	}{
		// in the middle, at an end of the wall, and past it
		{xy(0, 0), xy(40, 0), wall(20, -10, 20, 10, 0), true}, {xy(0, 0), xy(40, 0), wall(40, 0, 40, 5, 0), true}, {xy(0, 0), xy(40, 0), wall(20, 1, 20, 10, 0), false},
		{xy(0, 0), xy(40, 40), wall(0, 40, 40, 0, 0), true}, {xy(0, 0), xy(40, 40), wall(20, 20, 30, 0, 0), true}, {xy(0, 0), xy(40, 40), wall(21, 20, 30, 0, 0), false},
		// the path ends on the wall, in its middle, and just in front of it
		{xy(0, 5), xy(20, 5), wall(20, 0, 20, 10, 0), true}, {xy(0, 5), xy(19, 5), wall(20, 0, 20, 10, 0), false}, {xy(20, 5), xy(0, 9), wall(20, 0, 20, 10, 0), true}, {xy(21, 5), xy(40, 5), wall(20, 0, 20, 10, 0), false},
		{xy(0, 0), xy(20, 10), wall(20, 0, 20, 10, 0), true}, {xy(0, 0), xy(20, 11), wall(20, 0, 20, 10, 0), false}, {xy(0, 0), xy(20, 0), wall(20, 0, 20, 10, 0), true},
		// the wall would be met by a longer path, in boxes that overlap
		{xy(0, 0), xy(10, 10), wall(0, 30, 30, 0, 0), false}, {xy(0, 0), xy(14, 14), wall(0, 30, 30, 0, 0), false}, {xy(0, 0), xy(15, 15), wall(0, 30, 30, 0, 0), true}, {xy(30, 30), xy(16, 16), wall(0, 30, 30, 0, 0), false},
		// on one line, apart, with one point and with more in common
		{xy(0, 0), xy(10, 0), wall(11, 0, 20, 0, 0), false}, {xy(0, 0), xy(10, 0), wall(10, 0, 20, 0, 0), true}, {xy(0, 0), xy(10, 0), wall(20, 0, 9, 0, 0), true}, {xy(0, 0), xy(30, 0), wall(20, 0, 9, 0, 0), true}, {xy(10, 0), xy(12, 0), wall(20, 0, 9, 0, 0), true},
		{xy(0, 10), xy(0, 0), wall(0, -1, 0, -9, 0), false}, {xy(0, 10), xy(0, 0), wall(0, 0, 0, -9, 0), true}, {xy(0, 10), xy(0, 0), wall(0, 5, 0, -9, 0), true},
		{xy(0, 0), xy(2, 1), wall(4, 2, 6, 3, 0), false}, {xy(0, 0), xy(4, 2), wall(4, 2, 6, 3, 0), true}, {xy(0, 0), xy(5, 2), wall(4, 2, 6, 3, 0), false}, {xy(0, 0), xy(6, 3), wall(4, 2, 2, 1, 0), true}, {xy(6, 3), xy(8, 4), wall(4, 2, 2, 1, 0), false},
		// parallel
		{xy(0, 0), xy(10, 0), wall(0, 1, 10, 1, 0), false}, {xy(0, 0), xy(10, 10), wall(1, 0, 11, 10, 0), false},
		// the path is a point
		{xy(5, 5), xy(5, 5), wall(0, 0, 10, 10, 0), true}, {xy(0, 0), xy(0, 0), wall(0, 0, 10, 10, 0), true}, {xy(11, 11), xy(11, 11), wall(0, 0, 10, 10, 0), false}, {xy(5, 6), xy(5, 6), wall(0, 0, 10, 10, 0), false},
		// the wall is a point
		{xy(0, 0), xy(10, 10), wall(5, 5, 5, 5, 0), true}, {xy(0, 0), xy(10, 10), wall(10, 10, 10, 10, 0), true}, {xy(0, 0), xy(10, 10), wall(11, 11, 11, 11, 0), false}, {xy(0, 0), xy(10, 10), wall(6, 5, 6, 5, 0), false},
		// both are points
		{xy(3, 4), xy(3, 4), wall(3, 4, 3, 4, 0), true}, {xy(3, 4), xy(3, 4), wall(3, 5, 3, 5, 0), false}, {xy(3, 4), xy(3, 4), wall(2, 4, 2, 4, 0), false}, {xy(3, 4), xy(3, 4), wall(4, 3, 4, 3, 0), false},
		// as far away as possible, once by a hair
		{xy(-far, -far), xy(far, far), wall(-far, far, far, -far, 0), true}, {xy(-far, -far), xy(far, far), wall(far, far-1, far, -far, 0), false}, {xy(-far, -far), xy(far, far), wall(far, far, far, -far, 0), true},
		{xy(-far, -far), xy(far, far-1), wall(0, 0, far, far, 0), false}, {xy(-far, -far), xy(far, far-1), wall(0, -1, far, far, 0), true}, {xy(-far, far), xy(far, far), wall(-far, -far, far, -far, 0), false},
	} {
		for _, factor := range []int{0, 1000, -1, 1001} {
			x.w.Factor = factor
			if got := geometry.Crosses(x.a, x.b, x.w); got != x.want {
				t.Errorf("from %v to %v, wall %v: %v", x.a, x.b, x.w, got)
			}
		}
	}
}

// P5.1: all paths and walls with small coordinates.
func TestCrossesSmall(t *testing.T) {
	const side = 5
	for n := range side * side * side * side * side * side * side * side {
		var c [8]int
		for i := range c {
			c[i] = n % side
			n /= side
		}
		a, b, w := xy(c[0], c[1]), xy(c[2], c[3]), wall(c[4], c[5], c[6], c[7], 0)
		if got := geometry.Crosses(a, b, w); got != common(a, b, w.A, w.B) {
			t.Fatalf("from %v to %v, wall %v: %v", a, b, w, got)
		}
	}
}

// P5.1, P5.4: paths and walls with any coordinates, many of them with ends on one another; in both directions, moved, and with other axes.
func TestCrossesRandom(t *testing.T) {
	roll := random(5)
	for range 100000 {
		point := func() api.Point { return xy(roll(2*far)-far, roll(2*far)-far) }
		a, b, c, d := point(), point(), point(), point()
		switch roll(4) {
		case 0:
			c = xy(a.X+(b.X-a.X)/2, a.Y+(b.Y-a.Y)/2) // on the line, or beside it
		case 1:
			a = xy(c.X+(d.X-c.X)/2, c.Y+(d.Y-c.Y)/2)
		case 2:
			d = a
		case 3:
			a, b = c, xy((c.X+d.X)/2, (c.Y+d.Y)/2)
		}
		w := api.Wall{A: c, B: d}
		want := common(a, b, c, d)
		step := xy(-max(a.X, b.X, c.X, d.X)+far, -min(a.Y, b.Y, c.Y, d.Y)-far)
		moved := func(p api.Point) api.Point { return xy(p.X+step.X, p.Y+step.Y) }
		other := func(p api.Point) api.Point { return xy(p.Y, p.X) }
		for i, got := range []bool{
			geometry.Crosses(a, b, w), geometry.Crosses(b, a, w), geometry.Crosses(a, b, api.Wall{A: d, B: c}), geometry.Crosses(c, d, api.Wall{A: a, B: b}),
			geometry.Crosses(moved(a), moved(b), api.Wall{A: moved(c), B: moved(d)}), geometry.Crosses(other(a), other(b), api.Wall{A: other(c), B: other(d)}),
		} {
			if got != want {
				t.Fatalf("%d: from %v to %v, wall %v: %v", i, a, b, w, got)
			}
		}
		square := geometry.Square(a, b)
		if square != (a.X-b.X)*(a.X-b.X)+(a.Y-b.Y)*(a.Y-b.Y) || square != geometry.Square(b, a) || square != geometry.Square(moved(a), moved(b)) || square != geometry.Square(other(a), other(b)) {
			t.Fatalf("from %v to %v: %d", a, b, square)
		}
	}
}

// P5.2: powers at a point, with squares of distances around 100, both exponents and walls.
func TestAt(t *testing.T) {
	for _, x := range []struct {
		exponent, power int
		x, y, u, v      int
		walls           []api.Wall
		want            int
	}{
		{2, 90000, 0, 0, 30, 0, nil, 10000}, {4, 90000, 0, 0, 30, 0, nil, 1111},
		{2, 90000, 0, 0, 30, 0, []api.Wall{wall(15, 0, 15, 9, 250)}, 2500}, {4, 90000, 0, 0, 30, 0, []api.Wall{wall(15, 0, 15, 9, 250)}, 277},
		// up to a metre, and just above
		{2, 12345, 7, 7, 7, 7, nil, 12345}, {4, 12345, 7, 7, 7, 7, nil, 12345}, {2, 12345, 0, 0, 9, 4, nil, 12345}, {4, 12345, 0, 0, 7, 7, nil, 12345}, {2, 12345, 0, 0, 10, 0, nil, 12345}, {4, 12345, 6, 8, 0, 0, nil, 12345},
		{2, 12345, 0, 0, 10, 1, nil, 12222}, {4, 12345, 0, 0, 10, 1, nil, 12100}, {2, 101, 0, 0, 1, 10, nil, 100}, {2, 100, 0, 0, 1, 10, nil, 99},
		// rounded down each time
		{4, 1000, 0, 0, 0, 19, nil, 76}, {2, 1000, 0, 0, 0, 19, nil, 277}, {4, 199, 0, 0, 20, 10, nil, 7}, {4, 8, 0, 0, 20, 0, nil, 0}, {4, 999, 0, 0, 11, 0, nil, 681}, {4, 1000, 0, 0, 11, 0, nil, 682},
		// walls, one behind the other
		{2, 1000, 0, 0, 10, 0, []api.Wall{wall(5, 0, 5, 1, 1000)}, 1000}, {2, 1000, 0, 0, 10, 0, []api.Wall{wall(5, 0, 5, 1, 0)}, 0}, {2, 1000, 0, 0, 10, 0, []api.Wall{wall(5, 1, 5, 2, 0)}, 1000},
		{2, 1999, 0, 0, 10, 0, []api.Wall{wall(5, 0, 5, 1, 500), wall(5, 1, 5, 2, 0), wall(5, 0, 5, 1, 3)}, 2}, {2, 1999, 0, 0, 10, 0, []api.Wall{wall(5, 0, 5, 1, 3), wall(5, 1, 5, 2, 0), wall(5, 0, 5, 1, 500)}, 2},
		{2, 7, 0, 0, 10, 0, []api.Wall{wall(5, 0, 5, 1, 500), wall(0, 0, 0, 0, 350)}, 1}, {2, 7, 0, 0, 10, 0, []api.Wall{wall(0, 0, 0, 0, 350), wall(5, 0, 5, 1, 500)}, 1},
		{2, 9, 0, 0, 10, 0, []api.Wall{wall(5, 0, 5, 1, 400), wall(5, 0, 5, 1, 600)}, 1}, {2, 9, 0, 0, 10, 0, []api.Wall{wall(5, 0, 5, 1, 600), wall(5, 0, 5, 1, 400)}, 2},
		// a wall that ends at the sender, at the receiver, and that has both in it
		{2, 1000, 0, 0, 10, 0, []api.Wall{wall(0, 0, 0, 9, 100)}, 100}, {2, 1000, 0, 0, 10, 0, []api.Wall{wall(10, 0, 10, 9, 100)}, 100}, {2, 1000, 1, 0, 9, 0, []api.Wall{wall(0, 0, 10, 0, 100)}, 100}, {2, 1000, 3, 3, 3, 3, []api.Wall{wall(3, 3, 4, 9, 100)}, 100}, {2, 1000, 3, 3, 3, 3, []api.Wall{wall(4, 3, 4, 9, 100)}, 1000},
		// the greatest power, and none
		{2, api.MaxPower, 0, 0, 1, 1, walls(32, 1000), api.MaxPower}, {4, api.MaxPower, 0, 0, 1, 1, nil, api.MaxPower}, {2, api.MaxPower, 0, 0, most, most, nil, 34359}, {4, api.MaxPower, most, 0, 0, most, nil, 0}, {2, 0, 0, 0, 1, 1, nil, 0}, {4, 0, 0, 0, most, 0, nil, 0},
	} {
		s := with(func(s *api.Site) { s.Exponent, s.Walls = x.exponent, x.walls })
		if n, e := geometry.At(s, xy(x.x, x.y), x.power, xy(x.u, x.v)); n != x.want || e != api.OK {
			t.Errorf("%v: %d %v", x, n, e)
		}
	}
}

// P5.2: points and powers out of range.
func TestAtRange(t *testing.T) {
	s := room()
	for _, n := range append([]int{-1, most + 1, far, -far}, extremes...) {
		for _, p := range []api.Point{xy(n, 0), xy(0, n), xy(n, n)} {
			if n, e := geometry.At(s, p, 5, xy(0, 0)); n != 0 || e != api.ErrRange {
				t.Errorf("from %v: %d %v", p, n, e)
			}
			if n, e := geometry.At(s, xy(0, 0), 5, p); n != 0 || e != api.ErrRange {
				t.Errorf("to %v: %d %v", p, n, e)
			}
			if n, e := geometry.Nearest(s, p); n != 0 || e != api.ErrRange {
				t.Errorf("nearest to %v: %d %v", p, n, e)
			}
		}
	}
	for _, p := range append([]int{-1, api.MaxPower + 1}, extremes...) {
		if n, e := geometry.At(s, xy(0, 0), p, xy(0, 0)); n != 0 || e != api.ErrRange {
			t.Errorf("power %d: %d %v", p, n, e)
		}
	}
	for _, p := range []api.Point{xy(0, 0), xy(most, 0), xy(0, most), xy(most, most)} {
		if n, e := geometry.At(s, p, 5, p); n != 5 || e != api.OK {
			t.Errorf("at %v: %d %v", p, n, e)
		}
	}
}

// P5.2: the power of a node at another one, at itself, and at one with the same position.
func TestBetween(t *testing.T) {
	s := with(func(s *api.Site) {
		s.Nodes = append(s.Nodes, xy(30, 0))
		s.Powers = []int{90000, 81, 0, 1000}
		s.Walls = []api.Wall{wall(60, 0, 60, 60, 100)}
	})
	want := [][]int{{0, 10000, 111, 10000}, {9, 0, 0, 81}, {0, 0, 0, 0}, {111, 1000, 2, 0}}
	for a, l := range want {
		for b, p := range l {
			if n, e := geometry.Between(s, a, b); n != p || e != api.OK {
				t.Errorf("from %d to %d: %d %v, want %d", a, b, n, e, p)
			}
		}
	}
	if l, e := geometry.Table(s); !reflect.DeepEqual(l, want) || e != api.OK {
		t.Errorf("%v %v", l, e)
	}
	for _, n := range append([]int{-1, 4, 5, 31, 32, 1 << 32}, extremes...) {
		for _, x := range [][2]int{{n, 0}, {0, n}, {n, n}} {
			if p, e := geometry.Between(s, x[0], x[1]); p != 0 || e != api.ErrNotFound {
				t.Errorf("from %d to %d: %d %v", x[0], x[1], p, e)
			}
		}
		if l, e := geometry.Hears(s, n); len(l) != 0 || e != api.ErrNotFound {
			t.Errorf("hears %d: %v %v", n, l, e)
		}
	}
}

// P5.2: the table of a site with as many nodes as possible has each node's power at each other one.
func TestTable(t *testing.T) {
	s := row(32)
	l, e := geometry.Table(s)
	if len(l) != 32 || e != api.OK {
		t.Fatal(len(l), e)
	}
	for a := range l {
		if len(l[a]) != 32 {
			t.Fatal(a, len(l[a]))
		}
		for b, p := range l[a] {
			want := 0
			if a != b {
				want = arrives(s, s.Nodes[a], s.Powers[a], s.Nodes[b])
			}
			if p != want {
				t.Errorf("from %d to %d: %d, want %d", a, b, p, want)
			}
		}
	}
	// The rows are memory of their own.
	l[0] = append(l[0], 77)
	l[1][0], l[2][0] = 5, 6
	if again, _ := geometry.Table(s); again[1][0] == 5 || again[2][0] == 6 {
		t.Error("the table is kept")
	}
}

// P5.3: the nearest node; of two the lesser index.
func TestNearest(t *testing.T) {
	s := with(func(s *api.Site) {
		s.Nodes = []api.Point{xy(50, 50), xy(0, 0), xy(100, 0), xy(0, 0), xy(most, most)}
		s.Powers = []int{1, 2, 3, 4, 5}
		s.Walls = []api.Wall{wall(40, 40, 40, 40, 0)}
	})
	for _, x := range [][3]int{
		{50, 50, 0}, {0, 0, 1}, {100, 0, 2}, {most, most, 4}, {50, 0, 0}, {50, 51, 0}, {25, 25, 0}, {24, 25, 1}, {40, 40, 0}, {75, 25, 0}, {76, 25, 2}, {0, 50, 0}, {0, 49, 1},
		{most, 0, 2}, {0, most, 0}, {5024, 5026, 0}, {5025, 5025, 0}, {5026, 5025, 4}, {5025, 5026, 4},
	} {
		if n, e := geometry.Nearest(s, xy(x[0], x[1])); n != x[2] || e != api.OK {
			t.Errorf("%v: %d %v", x, n, e)
		}
	}
	if n, e := geometry.Nearest(with(func(s *api.Site) { s.Nodes[0], s.Nodes[2] = xy(60, 0), xy(0, 0) }), xy(45, 0)); n != 0 || e != api.OK {
		t.Error(n, e)
	}
}

// P5.3: which nodes a node hears, with and without a wall and up to the least signal that is received.
func TestHears(t *testing.T) {
	for i, x := range []struct {
		s    api.Site
		node int
		want []int
	}{
		{room(), 0, []int{1, 2}}, {room(), 1, []int{0, 2}}, {room(), 2, []int{0, 1}},
		{with(func(s *api.Site) { s.Powers = []int{0, 180, 1620} }), 0, []int{1, 2}},
		{with(func(s *api.Site) { s.Powers = []int{0, 179, 1619} }), 0, nil},
		{with(func(s *api.Site) { s.Powers = []int{0, 180, 1619} }), 0, []int{1}},
		{with(func(s *api.Site) { s.Powers = []int{api.MaxPower, 0, 1620} }), 0, []int{2}},
		{with(func(s *api.Site) { s.Threshold = 2001 }), 0, []int{1, 2}},
		{with(func(s *api.Site) { s.Powers[1], s.Threshold = 180, 2001 }), 0, []int{2}},
		{with(func(s *api.Site) { s.Powers[1], s.Noise = 180, 11 }), 0, []int{2}},
		{with(func(s *api.Site) { s.Powers[1], s.Noise, s.Threshold = 9, 1, 1000 }), 0, []int{1, 2}},
		{with(func(s *api.Site) { s.Powers[1], s.Noise, s.Threshold = 8, 1, 1000 }), 0, []int{2}},
		{with(func(s *api.Site) { s.Walls = []api.Wall{wall(30, 0, 30, 0, 0)} }), 0, nil},
		{with(func(s *api.Site) { s.Walls = []api.Wall{wall(20, 0, 20, 1, 2), wall(70, 0, 70, 1, 0)} }), 0, []int{1}},
		{with(func(s *api.Site) { s.Noise = api.MaxPower }), 0, nil},
		{with(func(s *api.Site) { s.Threshold = 100000 }), 0, []int{1, 2}},
		{with(func(s *api.Site) { s.Nodes[1], s.Powers[1] = xy(0, 0), 20 }), 0, []int{1, 2}},
	} {
		if l, e := geometry.Hears(x.s, x.node); !slices.Equal(l, x.want) || e != api.OK {
			t.Errorf("%d: %v %v, want %v", i, l, e, x.want)
		}
	}
}

// P5.2, P5.3: random sites against what follows directly from the definitions.
func TestRandomSites(t *testing.T) {
	roll := random(1)
	for range 3000 {
		s := randomSite(roll)
		p := xy(roll(500), roll(500))
		table, e := geometry.Table(s)
		if geometry.Check(s) != api.OK || e != api.OK {
			t.Fatal(s, e)
		}
		nearest := 0
		for b, at := range s.Nodes {
			var heard []int
			for a, from := range s.Nodes {
				want := 0
				if a != b {
					want = arrives(s, from, s.Powers[a], at)
				}
				if 1000*want >= s.Threshold*s.Noise {
					heard = append(heard, a)
				}
				if n, e := geometry.Between(s, a, b); n != want || e != api.OK || table[a][b] != want {
					t.Fatalf("%v: from %d to %d: %d %v and %d, want %d", s, a, b, n, e, table[a][b], want)
				}
			}
			if l, e := geometry.Hears(s, b); !slices.Equal(l, heard) || e != api.OK {
				t.Fatalf("%v: %d hears %v %v, want %v", s, b, l, e, heard)
			}
			if (at.X-p.X)*(at.X-p.X)+(at.Y-p.Y)*(at.Y-p.Y) < (s.Nodes[nearest].X-p.X)*(s.Nodes[nearest].X-p.X)+(s.Nodes[nearest].Y-p.Y)*(s.Nodes[nearest].Y-p.Y) {
				nearest = b
			}
		}
		if n, e := geometry.Nearest(s, p); n != nearest || e != api.OK {
			t.Fatalf("%v: nearest to %v: %d %v, want %d", s, p, n, e, nearest)
		}
	}
}

// P5.4: a further wall never strengthens a power, and no power is greater than that of its sender.
func TestFurtherWalls(t *testing.T) {
	roll := random(2)
	for range 1000 {
		s := randomSite(roll)
		before, _ := geometry.Table(s)
		more := s
		more.Walls = slices.Insert(slices.Clone(s.Walls), roll(len(s.Walls)), wall(roll(60), roll(60), roll(60), roll(60), roll(1000)))
		after, e := geometry.Table(more)
		if e != api.OK {
			t.Fatal(e)
		}
		for a := range before {
			for b, p := range before[a] {
				if after[a][b] > p || p > s.Powers[a] {
					t.Fatalf("%v: from %d to %d: %d, with a further wall %d", more, a, b, p, after[a][b])
				}
			}
		}
	}
}

// P5.4: without walls a power never grows with the distance.
func TestPowerFalls(t *testing.T) {
	roll := random(3)
	for i := range 40 {
		s := with(func(s *api.Site) { s.Exponent = 2 + 2*(i%2) })
		p, from := roll(1<<roll(36)), xy(roll(most), roll(most))
		type reading struct{ square, power int }
		var l []reading
		for range 200 {
			reach := []int{10, 40, 300, most}[roll(3)]
			to := xy(max(0, min(most, from.X+roll(2*reach)-reach)), max(0, min(most, from.Y+roll(2*reach)-reach)))
			n, e := geometry.At(s, from, p, to)
			back, f := geometry.At(s, to, p, from)
			if e != api.OK || f != api.OK || n != back || n > p {
				t.Fatal(n, e, back, f)
			}
			l = append(l, reading{geometry.Square(from, to), n})
		}
		slices.SortFunc(l, func(a, b reading) int { return a.square - b.square })
		for k := 1; k < len(l); k++ {
			if l[k].power > l[k-1].power {
				t.Fatalf("%d of %d: %v after %v", p, s.Exponent, l[k], l[k-1])
			}
		}
	}
}

// P5.4: powers are the same if all points are moved by the same step, or both axes are exchanged.
func TestMovedSites(t *testing.T) {
	roll := random(4)
	for range 500 {
		s := randomSite(roll)
		x, y := roll(5000), roll(5000)
		for _, turned := range []bool{false, true} {
			move := func(p api.Point) api.Point {
				if turned {
					p = xy(p.Y, p.X)
				}
				return xy(p.X+x, p.Y+y)
			}
			other := s
			other.Nodes, other.Walls = nil, nil
			for _, p := range s.Nodes {
				other.Nodes = append(other.Nodes, move(p))
			}
			for _, w := range s.Walls {
				other.Walls = append(other.Walls, api.Wall{A: move(w.A), B: move(w.B), Factor: w.Factor})
			}
			a, e := geometry.Table(s)
			b, f := geometry.Table(other)
			if e != api.OK || f != api.OK || !reflect.DeepEqual(a, b) {
				t.Fatalf("%v: %v, moved %v", s, a, b)
			}
		}
	}
}

// P1: no call panics or changes its arguments, whatever numbers there are.
func TestAllArguments(t *testing.T) {
	numbers := append([]int{-far, -1, 0, 1, 3, most, most + 1, far, 1 << 31, 1 << 62}, extremes...)
	s := with(func(s *api.Site) { s.Walls = []api.Wall{wall(5, 0, 5, 1, 500)} })
	before := with(func(s *api.Site) { s.Walls = []api.Wall{wall(5, 0, 5, 1, 500)} })
	for _, a := range numbers {
		for _, b := range numbers {
			p, q := xy(a, b), xy(b, a)
			geometry.Square(p, q)
			geometry.Crosses(p, q, api.Wall{A: q, B: p, Factor: a})
			n, e := geometry.At(s, p, a, q)
			if inside := a >= 0 && a <= most && b >= 0 && b <= most; inside != (e == api.OK) || !inside && (n != 0 || e != api.ErrRange) {
				t.Errorf("At(%v, %d, %v) = %d %v", p, a, q, n, e)
			}
			n, e = geometry.Between(s, a, b)
			if inside := a >= 0 && a < 3 && b >= 0 && b < 3; inside != (e == api.OK) || !inside && (n != 0 || e != api.ErrNotFound) {
				t.Errorf("Between(%d, %d) = %d %v", a, b, n, e)
			}
			geometry.Nearest(s, p)
		}
		geometry.Hears(s, a)
		geometry.Check(api.Site{Nodes: []api.Point{xy(a, a), xy(a, a)}, Powers: []int{a, a}, Walls: []api.Wall{wall(a, a, a, a, a)}, Exponent: a, Noise: a, Threshold: a})
	}
	geometry.Table(s)
	if !reflect.DeepEqual(s, before) {
		t.Error(s)
	}
}
