package power_test

import (
	"math"
	"math/big"
	"strconv"
	"strings"
	"testing"

	"hopmesh/api"
	"hopmesh/power"
)

const (
	mostDecibels = 108
	mostSum      = 64 * api.MaxPower
)

// extremes are numbers that are no powers, and no decibels.
var extremes = []int{math.MinInt, math.MinInt + 1, -api.MaxPower, -1000, -2, -1, api.MaxPower + 1, api.MaxPower + 2, mostSum + 1, math.MaxInt - 1, math.MaxInt}

// powers returns a list of n powers that are the same.
func powers(n, p int) []int {
	l := make([]int, n)
	for i := range l {
		l[i] = p
	}
	return l
}

// received decides by numbers of any size whether a signal is received.
func received(signal, threshold, noise int, interference []int) bool {
	sum := big.NewInt(int64(noise))
	for _, p := range interference {
		sum.Add(sum, big.NewInt(int64(p)))
	}
	need := sum.Mul(sum, big.NewInt(int64(threshold)))
	have := new(big.Int).Mul(big.NewInt(1000), big.NewInt(int64(signal)))
	return have.Cmp(need) >= 0
}

// random returns a function that gives numbers from 0 to most, which follow from a seed.
func random(seed uint64) func(most int) int {
	return func(most int) int {
		seed = seed*6364136223846793005 + 1442695040888963407
		return int(seed>>16) % (most + 1)
	}
}

// P4.1: the levels of some decibels, with the ends of the range and of decades.
func TestLevel(t *testing.T) {
	for _, x := range [][2]int{
		{0, 1}, {1, 1}, {2, 1}, {3, 1}, {4, 2}, {5, 3}, {6, 3}, {7, 5}, {8, 6}, {9, 7},
		{10, 10}, {11, 12}, {12, 15}, {13, 19}, {14, 25}, {15, 31}, {16, 39}, {17, 50}, {18, 63}, {19, 79},
		{20, 100}, {21, 125}, {29, 794}, {30, 1000}, {31, 1259}, {32, 1585}, {33, 1995}, {34, 2512}, {35, 3162}, {36, 3981}, {37, 5012}, {38, 6310}, {39, 7943}, {40, 10000}, {47, 50120},
		{99, 7943000000}, {100, 10000000000}, {107, 50120000000}, {108, 63100000000},
	} {
		if n, e := power.Level(x[0]); n != x[1] || e != api.OK {
			t.Errorf("Level(%d) = %d %v, want %d", x[0], n, e, x[1])
		}
	}
	for _, n := range append([]int{109, 110, 1000}, extremes...) {
		if p, e := power.Level(n); p != 0 || e != api.ErrRange {
			t.Errorf("Level(%d) = %d %v", n, p, e)
		}
	}
}

// P4.1: from three decades on, ten decibels more are ten times the power.
func TestLevelDecades(t *testing.T) {
	for n := 30; n+10 <= mostDecibels; n++ {
		a, _ := power.Level(n)
		if b, e := power.Level(n + 10); b != 10*a || e != api.OK {
			t.Errorf("Level(%d) = %d %v after %d", n+10, b, e, a)
		}
	}
}

// P4.4: more decibels are not less power, and more from 6 decibels on; all of them are powers.
func TestLevelGrows(t *testing.T) {
	for n := 1; n <= mostDecibels; n++ {
		a, e := power.Level(n - 1)
		b, f := power.Level(n)
		if e != api.OK || f != api.OK || a > b || n > 6 && a == b || a < 1 || b > api.MaxPower {
			t.Errorf("%d decibels are %d, %d are %d", n-1, a, n, b)
		}
	}
}

// P4.1: the decibels of each power around those of all decibels.
func TestDecibels(t *testing.T) {
	for _, x := range [][2]int{{1, 3}, {2, 4}, {3, 6}, {4, 6}, {5, 7}, {9, 9}, {10, 10}, {18, 12}, {19, 13}, {24, 13}, {25, 14}, {999, 29}, {1000, 30}, {63099999999, 107}, {63100000000, 108}, {api.MaxPower - 1, 108}, {api.MaxPower, 108}} {
		if n, e := power.Decibels(x[0]); n != x[1] || e != api.OK {
			t.Errorf("Decibels(%d) = %d %v, want %d", x[0], n, e, x[1])
		}
	}
	for n := 6; n <= mostDecibels; n++ {
		p, _ := power.Level(n)
		if k, e := power.Decibels(p); k != n || e != api.OK {
			t.Errorf("Decibels(%d) = %d %v, want %d", p, k, e, n)
		}
		if k, e := power.Decibels(p + 1); k < n || e != api.OK {
			t.Errorf("Decibels(%d) = %d %v, want at least %d", p+1, k, e, n)
		}
		if k, e := power.Decibels(p - 1); n > 6 && k != n-1 || e != api.OK {
			t.Errorf("Decibels(%d) = %d %v, want %d", p-1, k, e, n-1)
		}
	}
	for _, n := range append([]int{0}, extremes...) {
		if k, e := power.Decibels(n); k != 0 || e != api.ErrRange {
			t.Errorf("Decibels(%d) = %d %v", n, k, e)
		}
	}
}

// P4.1: the greatest decibels with no more power than there is, for all small powers.
func TestDecibelsAreGreatest(t *testing.T) {
	for p := 1; p < 20000; p++ {
		n, e := power.Decibels(p)
		a, _ := power.Level(n)
		b, _ := power.Level(n + 1)
		if e != api.OK || a > p || b <= p {
			t.Fatalf("Decibels(%d) = %d %v", p, n, e)
		}
	}
}

// P4.1
func TestScale(t *testing.T) {
	for _, x := range [][3]int{
		{0, 0, 0}, {0, 1000, 0}, {1, 0, 0}, {1, 999, 0}, {1, 1000, 1}, {999, 1, 0}, {1000, 1, 1}, {1999, 1, 1}, {3, 333, 0}, {3, 334, 1}, {10000, 250, 2500}, {1111, 250, 277},
		{api.MaxPower, 0, 0}, {api.MaxPower, 1, 68719476}, {api.MaxPower, 999, 68650757259}, {api.MaxPower - 1, 1000, api.MaxPower - 1}, {api.MaxPower, 1000, api.MaxPower},
	} {
		if n, e := power.Scale(x[0], x[1]); n != x[2] || e != api.OK {
			t.Errorf("Scale(%d, %d) = %d %v, want %d", x[0], x[1], n, e, x[2])
		}
	}
	for _, p := range extremes {
		for _, f := range []int{0, 1, 1000, -1, 1001} {
			if n, e := power.Scale(p, f); n != 0 || e != api.ErrRange {
				t.Errorf("Scale(%d, %d) = %d %v", p, f, n, e)
			}
		}
	}
	for _, f := range append([]int{1001, 1002, 2000}, extremes...) {
		for _, p := range []int{0, 1, api.MaxPower, -1} {
			if n, e := power.Scale(p, f); n != 0 || e != api.ErrRange {
				t.Errorf("Scale(%d, %d) = %d %v", p, f, n, e)
			}
		}
	}
}

// P4.1: no powers, one, and 64 of them.
func TestSum(t *testing.T) {
	for _, x := range []struct {
		l    []int
		want int
	}{
		{nil, 0},
		{[]int{}, 0},
		{[]int{0}, 0},
		{[]int{api.MaxPower}, api.MaxPower},
		{[]int{1, 2, 3, 2}, 8},
		{[]int{0, api.MaxPower, 0, 5}, api.MaxPower + 5},
		{powers(63, 7), 441},
		{powers(64, 1), 64},
		{powers(64, api.MaxPower), mostSum},
	} {
		if n, e := power.Sum(x.l); n != x.want || e != api.OK {
			t.Errorf("Sum(%v) = %d %v, want %d", x.l, n, e, x.want)
		}
	}
}

// P4.1: too many powers, whatever they are, and then numbers that are none, wherever they stand.
func TestSumErrors(t *testing.T) {
	for _, n := range []int{65, 66, 1000} {
		for _, p := range append([]int{0, 1, api.MaxPower}, extremes...) {
			if s, e := power.Sum(powers(n, p)); s != 0 || e != api.ErrTooLarge {
				t.Errorf("%d times %d: %d %v", n, p, s, e)
			}
		}
	}
	for _, n := range []int{1, 2, 64} {
		for i := range n {
			for _, p := range extremes {
				l := powers(n, 3)
				l[i] = p
				if s, e := power.Sum(l); s != 0 || e != api.ErrRange {
					t.Errorf("%d at %d of %d: %d %v", p, i, n, s, e)
				}
			}
		}
	}
}

// P4.2: the example of the chapter.
func TestExample(t *testing.T) {
	if n, e := power.Margin(100, 2000, 10); n != 40 || e != api.OK {
		t.Error(n, e)
	}
	if n, e := power.Least(2000, 10, 40); n != 100 || e != api.OK {
		t.Error(n, e)
	}
	for _, x := range []struct {
		l    []int
		want bool
	}{{[]int{40}, true}, {[]int{20, 20}, true}, {[]int{41}, false}, {[]int{20, 21}, false}, {nil, true}} {
		if ok, e := power.Received(100, 2000, 10, x.l); ok != x.want || e != api.OK {
			t.Errorf("%v: %v %v", x.l, ok, e)
		}
	}
}

// P4.2: signals, thresholds and noises at their ends, with the greatest interference, too.
func TestReceived(t *testing.T) {
	for _, signal := range []int{0, 1, 2, 3, 100, 101, 999, 1000, 1001, 1 << 20, api.MaxPower - 1, api.MaxPower} {
		for _, threshold := range []int{api.MinThresh, api.MinThresh + 1, 1500, 2000, api.MaxThresh - 1, api.MaxThresh} {
			for _, noise := range []int{1, 2, 10, 100, 1 << 19, api.MaxPower - 1, api.MaxPower} {
				for _, l := range [][]int{nil, {0}, {1}, {1, 1}, {90}, {0, 91}, {1 << 19}, {api.MaxPower - 1}, {api.MaxPower}, powers(64, 1), powers(64, api.MaxPower)} {
					want := received(signal, threshold, noise, l)
					if ok, e := power.Received(signal, threshold, noise, l); ok != want || e != api.OK {
						t.Errorf("Received(%d, %d, %d, %v) = %v %v", signal, threshold, noise, l, ok, e)
					}
				}
			}
		}
	}
}

// P4.2: the signal, the threshold and the noise go ahead of the interference, of which the number goes ahead.
func TestReceivedErrors(t *testing.T) {
	for _, x := range []struct {
		signal, threshold, noise int
		l                        []int
		want                     api.Errno
	}{
		{-1, 2000, 10, nil, api.ErrRange},
		{api.MaxPower + 1, 2000, 10, nil, api.ErrRange},
		{100, api.MinThresh - 1, 10, nil, api.ErrRange},
		{100, api.MaxThresh + 1, 10, nil, api.ErrRange},
		{100, 2000, 0, nil, api.ErrRange},
		{100, 2000, -1, nil, api.ErrRange},
		{100, 2000, api.MaxPower + 1, nil, api.ErrRange},
		{-1, 2000, 10, powers(65, 1), api.ErrRange},
		{100, 999, 10, powers(65, 1), api.ErrRange},
		{100, 2000, 0, powers(65, 1), api.ErrRange},
		{100, 2000, 10, powers(65, 1), api.ErrTooLarge},
		{100, 2000, 10, powers(65, -1), api.ErrTooLarge},
		{100, 2000, 10, powers(64, -1), api.ErrRange},
		{100, 2000, 10, []int{1, api.MaxPower + 1}, api.ErrRange},
		{api.MaxPower, 1000, 1, []int{-1}, api.ErrRange},
		{api.MaxPower, 1000, 1, powers(65, 0), api.ErrTooLarge},
	} {
		if ok, e := power.Received(x.signal, x.threshold, x.noise, x.l); ok || e != x.want {
			t.Errorf("Received(%d, %d, %d, %d powers) = %v %v, want %v", x.signal, x.threshold, x.noise, len(x.l), ok, e, x.want)
		}
	}
}

// P4.2: no margin at all, the least one, and the greatest one.
func TestMargin(t *testing.T) {
	for _, x := range [][4]int{
		{0, 1000, 1, -1}, {0, 100000, api.MaxPower, -1}, {1, 1000, 1, 0}, {1, 1001, 1, -1}, {1, 1000, 2, -1}, {2, 1000, 1, 1},
		{19, 2000, 10, -1}, {20, 2000, 10, 0}, {21, 2000, 10, 0}, {22, 2000, 10, 1}, {99, 100000, 1, -1}, {100, 100000, 1, 0}, {199, 100000, 1, 0}, {200, 100000, 1, 1},
		{1000, 1001, 998, 1}, {1000, 1001, 999, 0}, {1000, 1001, 1000, -1}, {1001, 1001, 1000, 0},
		{api.MaxPower, 1000, 1, api.MaxPower - 1}, {api.MaxPower, 1000, api.MaxPower, 0}, {api.MaxPower - 1, 1000, api.MaxPower, -1}, {api.MaxPower, 1001, api.MaxPower, -1}, {api.MaxPower, 100000, 1, api.MaxPower/100 - 1},
	} {
		if n, e := power.Margin(x[0], x[1], x[2]); n != x[3] || e != api.OK {
			t.Errorf("Margin(%d, %d, %d) = %d %v, want %d", x[0], x[1], x[2], n, e, x[3])
		}
	}
}

// P4.2: signals, thresholds and noises that there are not.
func TestMarginErrors(t *testing.T) {
	for _, x := range [][3]int{{-1, 2000, 10}, {api.MaxPower + 1, 2000, 10}, {100, 999, 10}, {100, 100001, 10}, {100, 0, 10}, {100, -1000, 10}, {100, 2000, 0}, {100, 2000, -1}, {100, 2000, api.MaxPower + 1}} {
		if n, e := power.Margin(x[0], x[1], x[2]); n != 0 || e != api.ErrRange {
			t.Errorf("Margin(%d, %d, %d) = %d %v", x[0], x[1], x[2], n, e)
		}
	}
}

// P4.2: the least signals, also just within MaxPower and just above it.
func TestLeast(t *testing.T) {
	most := 1000 * api.MaxPower / 1001
	for _, x := range []struct {
		threshold, noise, interference, want int
		e                                    api.Errno
	}{
		{1000, 1, 0, 1, api.OK},
		{1001, 1, 0, 2, api.OK},
		{1999, 1, 0, 2, api.OK},
		{2000, 1, 0, 2, api.OK},
		{2001, 1, 0, 3, api.OK},
		{1500, 1, 2, 5, api.OK},
		{100000, 1, 0, 100, api.OK},
		{100000, 3, 4, 700, api.OK},
		{1000, 1, api.MaxPower - 1, api.MaxPower, api.OK},
		{1000, 1, api.MaxPower, 0, api.ErrTooLarge},
		{1000, 2, api.MaxPower - 1, 0, api.ErrTooLarge},
		{1000, api.MaxPower, 0, api.MaxPower, api.OK},
		{1000, api.MaxPower, 1, 0, api.ErrTooLarge},
		{1001, 1, most - 1, api.MaxPower, api.OK},
		{1001, 1, most, 0, api.ErrTooLarge},
		{1001, api.MaxPower, 0, 0, api.ErrTooLarge},
		{100000, 1, api.MaxPower/100 - 1, 100 * (api.MaxPower / 100), api.OK},
		{100000, 1, api.MaxPower / 100, 0, api.ErrTooLarge},
		{1000, 1, mostSum, 0, api.ErrTooLarge},
		{100000, api.MaxPower, mostSum, 0, api.ErrTooLarge},
	} {
		if n, e := power.Least(x.threshold, x.noise, x.interference); n != x.want || e != x.e {
			t.Errorf("Least(%d, %d, %d) = %d %v, want %d %v", x.threshold, x.noise, x.interference, n, e, x.want, x.e)
		}
	}
}

// P4.2: thresholds, noises and interferences that there are not go ahead of a result that is too large.
func TestLeastErrors(t *testing.T) {
	for _, x := range [][3]int{
		{999, 10, 40}, {100001, 10, 40}, {0, 10, 40}, {2000, 0, 40}, {2000, -1, 40}, {2000, api.MaxPower + 1, 40}, {2000, 10, -1}, {2000, 10, mostSum + 1},
		{999, api.MaxPower, mostSum}, {100001, api.MaxPower, mostSum}, {100000, api.MaxPower + 1, mostSum}, {100000, 0, mostSum}, {100000, api.MaxPower, mostSum + 1}, {100000, api.MaxPower, -1},
	} {
		if n, e := power.Least(x[0], x[1], x[2]); n != 0 || e != api.ErrRange {
			t.Errorf("Least(%d, %d, %d) = %d %v", x[0], x[1], x[2], n, e)
		}
	}
}

// P4.4: a signal is received exactly up to its margin, and exactly from the least signal on.
func TestMarginAndLeast(t *testing.T) {
	next := random(1)
	for range 20000 {
		signal, noise := next(api.MaxPower)>>next(36), 1+next(api.MaxPower-1)>>next(36)
		threshold := api.MinThresh + next(api.MaxThresh-api.MinThresh)>>next(17)
		margin, e := power.Margin(signal, threshold, noise)
		if e != api.OK || margin < -1 {
			t.Fatalf("Margin(%d, %d, %d) = %d %v", signal, threshold, noise, margin, e)
		}
		for _, i := range []int{0, margin - 1, margin, margin + 1, next(api.MaxPower) >> next(36)} {
			if i < 0 {
				continue
			}
			ok, e := power.Received(signal, threshold, noise, []int{i})
			if e != api.OK || ok != (i <= margin) || ok != received(signal, threshold, noise, []int{i}) {
				t.Fatalf("Received(%d, %d, %d, %d) = %v %v with the margin %d", signal, threshold, noise, i, ok, e, margin)
			}
			least, e := power.Least(threshold, noise, i)
			if e == api.ErrTooLarge {
				if received(api.MaxPower, threshold, noise, []int{i}) {
					t.Fatalf("Least(%d, %d, %d) is not too large", threshold, noise, i)
				}
				least = api.MaxPower + 1
			}
			if ok != (signal >= least) {
				t.Fatalf("Received(%d, %d, %d, %d) = %v with the least signal %d", signal, threshold, noise, i, ok, least)
			}
		}
	}
}

// P4.4: what is received stays received with a greater signal, and with less interference.
func TestReceivedMore(t *testing.T) {
	for signal := range 60 {
		for noise := 1; noise < 6; noise++ {
			for sum := range 20 {
				ok, _ := power.Received(signal, 2500, noise, []int{sum})
				if more, e := power.Received(signal+1, 2500, noise, []int{sum}); e != api.OK || ok && !more {
					t.Errorf("the signal %d is received with %d and %d, %d is not", signal, noise, sum, signal+1)
				}
				if less, e := power.Received(signal, 2500, noise, []int{max(0, sum-1)}); e != api.OK || ok && !less {
					t.Errorf("the signal %d is received with %d and %d, and not with less", signal, noise, sum)
				}
				if fewer, e := power.Received(signal, 2500, noise, nil); e != api.OK || ok && !fewer {
					t.Errorf("the signal %d is received with %d and %d, and not without any", signal, noise, sum)
				}
			}
		}
	}
}

// P4.4: of two signals that disturb one another at most one is received.
func TestTwoSignals(t *testing.T) {
	for _, a := range []int{0, 1, 2, 3, 10, 11, 12, 100, api.MaxPower - 1, api.MaxPower} {
		for _, b := range []int{0, 1, 2, 3, 10, 11, 12, 100, api.MaxPower - 1, api.MaxPower} {
			first, e := power.Received(a, api.MinThresh, 1, []int{b})
			second, f := power.Received(b, api.MinThresh, 1, []int{a})
			if e != api.OK || f != api.OK || first && second || first != (a > b) {
				t.Errorf("%d and %d: %v %v", a, b, first, second)
			}
		}
	}
}

// P4.3
func TestFormat(t *testing.T) {
	for _, x := range []struct {
		power int
		want  string
	}{{1, "3 dB"}, {2, "4 dB"}, {9, "9 dB"}, {10, "10 dB"}, {19, "13 dB"}, {999, "29 dB"}, {1000, "30 dB"}, {10000000000, "100 dB"}, {api.MaxPower, "108 dB"}} {
		if s, e := power.Format(x.power); s != x.want || e != api.OK {
			t.Errorf("Format(%d) = %q %v, want %q", x.power, s, e, x.want)
		}
	}
	for _, n := range append([]int{0}, extremes...) {
		if s, e := power.Format(n); s != "" || e != api.ErrRange {
			t.Errorf("Format(%d) = %q %v", n, s, e)
		}
	}
}

// P4.3: the texts of all decibels.
func TestParse(t *testing.T) {
	for n := range mostDecibels + 1 {
		want, _ := power.Level(n)
		p, e := power.Parse(strconv.Itoa(n) + " dB")
		if p != want || e != api.OK {
			t.Errorf("Parse of %d dB: %d %v, want %d", n, p, e, want)
		}
		s, e := power.Format(p)
		if e != api.OK || n >= 6 && s != strconv.Itoa(n)+" dB" {
			t.Errorf("the power of %d dB is formatted as %q %v", n, s, e)
		}
	}
}

// P4.3: numbers of the right form that are too large.
func TestParseRange(t *testing.T) {
	for _, s := range []string{"109", "110", "200", "1000", "1080", "9223372036854775807", "9223372036854775808", "18446744073709551616", "18446744073709551617", "1" + strings.Repeat("0", 1000), strings.Repeat("9", 1<<16)} {
		if p, e := power.Parse(s + " dB"); p != 0 || e != api.ErrRange {
			t.Errorf("%.30s: %d %v", s, p, e)
		}
	}
}

// P4.3: texts of another form.
func TestParseSyntax(t *testing.T) {
	for _, s := range []string{
		"", " ", "0", "30", "dB", " dB", "  dB", "30dB", "30  dB", " 30 dB", "30 dB ", "30\tdB", "30\ndB", "30 dB\n", "30\u00a0dB", "30 dB\x00",
		"00 dB", "01 dB", "030 dB", "0109 dB", "0000000000000000000000001 dB", "+30 dB", "-30 dB", "-0 dB", "+0 dB", "-1 dB", "- dB", "--1 dB", "1-1 dB", "+109 dB", "-99999999999999999999 dB",
		"30 DB", "30 db", "30 Db", "30 d", "30 dBm", "30 dB dB", "30 dB 30 dB", "a dB", "3a dB", "a3 dB", "1 0 dB", "1.5 dB", "1,5 dB", "1_0 dB", "0x1e dB", "1e1 dB", "\x003 dB", "3\x00 dB", "٣ dB", "３ dB", "109", "999 DB", "/ dB", ": dB",
	} {
		if p, e := power.Parse(s); p != 0 || e != api.ErrSyntax {
			t.Errorf("Parse(%q) = %d %v", s, p, e)
		}
	}
}

// P4.3: which bytes can stand in front of a digit, behind it, and between it and the unit.
func TestParseBytes(t *testing.T) {
	for _, x := range []struct{ front, behind, allowed string }{
		{"", "3 dB", "123456789"},
		{"3", " dB", "0123456789"},
		{"3", "dB", " "},
		{"3 ", "B", "d"},
		{"3 d", "", "B"},
		{"3 dB", "", ""},
	} {
		for c := range 256 {
			s := x.front + string([]byte{byte(c)}) + x.behind
			want := api.ErrSyntax
			if strings.IndexByte(x.allowed, byte(c)) >= 0 {
				want = api.OK
			}
			if p, e := power.Parse(s); e != want || e != api.OK && p != 0 {
				t.Errorf("Parse(%q) = %d %v, want %v", s, p, e, want)
			}
		}
	}
}

// P1: no call panics, whatever numbers, lists and strings there are, and with an error the result is 0.
func TestAllArguments(t *testing.T) {
	numbers := append([]int{0, 1, 108, 109, 999, 1000, 1001, 100000, 100001, api.MaxPower, mostSum}, extremes...)
	for _, a := range numbers {
		p, e := power.Level(a)
		check(t, p, e, a >= 0 && a <= 108)
		p, e = power.Decibels(a)
		check(t, p, e, a >= 1 && a <= api.MaxPower)
		s, e := power.Format(a)
		check(t, len(s), e, a >= 1 && a <= api.MaxPower)
		p, e = power.Sum([]int{a})
		check(t, p, e, a >= 0 && a <= api.MaxPower)
		for _, b := range numbers {
			p, e = power.Scale(a, b)
			check(t, p, e, a >= 0 && a <= api.MaxPower && b >= 0 && b <= 1000)
			for _, c := range numbers {
				signal, threshold := a >= 0 && a <= api.MaxPower, b >= 1000 && b <= 100000
				noise := c >= 1 && c <= api.MaxPower
				p, e = power.Margin(a, b, c)
				check(t, p, e, signal && threshold && noise)
				ok, e := power.Received(a, b, c, []int{a})
				if (e == api.OK) != (signal && threshold && noise) || ok && e != api.OK {
					t.Errorf("Received(%d, %d, %d) = %v %v", a, b, c, ok, e)
				}
				p, e = power.Least(b, c, a)
				if e != api.ErrTooLarge {
					check(t, p, e, threshold && noise && a >= 0 && a <= mostSum)
				}
			}
		}
	}
	for _, s := range []string{"", "\xff dB", strings.Repeat(" dB", 1<<16), strings.Repeat("0", 1<<20) + " dB"} {
		if p, e := power.Parse(s); p != 0 || e != api.ErrSyntax {
			t.Errorf("a text of %d bytes: %d %v", len(s), p, e)
		}
	}
}

// check reports a result that is not 0 with an error, or an error that does not fit.
func check(t *testing.T, n int, e api.Errno, fits bool) {
	t.Helper()
	if fits != (e == api.OK) || !fits && (n != 0 || e != api.ErrRange) {
		t.Errorf("%d %v", n, e)
	}
}

// P1: a list is not changed.
func TestArgumentsStay(t *testing.T) {
	l := []int{3, 1, 2}
	power.Sum(l)
	power.Received(100, 2000, 10, l)
	if l[0] != 3 || l[1] != 1 || l[2] != 2 {
		t.Error(l)
	}
}
