package crc_test

import (
	"math"
	"strings"
	"testing"

	"hopmesh/api"
	"hopmesh/crc"
)

// period is the least n above 0 for which x^n is 1.
const period = 32767

// sample returns a string of n bytes without a visible rule.
func sample(n int) string {
	s := make([]byte, n)
	seed := uint32(n + 1)
	for i := range s {
		seed = seed*1664525 + 1013904223
		s[i] = byte(seed >> 24)
	}
	return string(s)
}

// flip returns a string in which a bit is wrong that is some bits in front of the last one.
func flip(s string, bits ...int) string {
	b := []byte(s)
	for _, i := range bits {
		b[len(b)-1-i/8] ^= 1 << (i % 8)
	}
	return string(b)
}

// divided returns the remainder of a polynomial, which is given by its coefficients from the highest one on, bit by bit.
func divided(coefficients []bool) uint16 {
	rest := 0
	for _, c := range coefficients {
		rest *= 2
		if c {
			rest++
		}
		if rest >= 1<<16 {
			rest ^= 0x11021
		}
	}
	return uint16(rest)
}

// sum is the check sum by its definition.
func sum(s string) uint16 {
	var coefficients []bool
	for i := range 8 * len(s) {
		coefficients = append(coefficients, s[i/8]>>(7-i%8)&1 == 1)
	}
	return divided(append(coefficients, make([]bool, 16)...))
}

// product is the remainder of a product by its definition.
func product(a, b uint16) uint16 {
	coefficients := make([]bool, 31)
	for i := range 16 {
		for j := range 16 {
			if a>>i&1 == 1 && b>>j&1 == 1 {
				coefficients[30-i-j] = !coefficients[30-i-j]
			}
		}
	}
	return divided(coefficients)
}

// found reports whether a string is found not to be protected.
func found(t *testing.T, s string) bool {
	t.Helper()
	text, e := crc.Check(s)
	if e != api.OK && (e != api.ErrCorrupt || text != "") {
		t.Errorf("Check of %d bytes: %q %v", len(s), text, e)
	}
	return e != api.OK
}

// P3.1 to P3.4: the examples of the chapter.
func TestExamples(t *testing.T) {
	if n := crc.Sum("123456789"); n != 0x31c3 {
		t.Errorf("%x", n)
	}
	if n := crc.Power(16); n != 0x1021 {
		t.Errorf("%x", n)
	}
	if n := crc.Multiply(0x8000, 2); n != 0x1021 {
		t.Errorf("%x", n)
	}
	if s := crc.Protect("A"); s != "\x41\x58\xe5" {
		t.Errorf("%x", s)
	}
	if n, e := crc.Syndrome("\x00\x00\x01"); n != 1 || e != api.OK {
		t.Error(n, e)
	}
	if i, ok := crc.Locate(1, 24); i != 0 || !ok {
		t.Error(i, ok)
	}
}

// P3.1
func TestMultiply(t *testing.T) {
	others := []uint16{0, 1, 2, 3, 0x1021, 0x7fff, 0x8000, 0x8001, 0xf01f, 0xfffe, 0xffff}
	for a := range 1 << 16 {
		b := others[a%len(others)]
		want := product(uint16(a), b)
		if n := crc.Multiply(uint16(a), b); n != want {
			t.Fatalf("Multiply(%x, %x) = %x, want %x", a, b, n, want)
		}
		if n := crc.Multiply(b, uint16(a)); n != want {
			t.Fatalf("Multiply(%x, %x) = %x, want %x", b, a, n, want)
		}
	}
	for _, a := range others {
		for _, b := range others {
			if n := crc.Multiply(a, b); n != product(a, b) {
				t.Errorf("Multiply(%x, %x) = %x, want %x", a, b, n, product(a, b))
			}
		}
	}
}

// P3.1: each power is the one in front of it times x, beyond the period, too.
func TestPower(t *testing.T) {
	if n := crc.Power(0); n != 1 {
		t.Error(n)
	}
	for n := 1; n < 2*period+20; n++ {
		if p := crc.Power(n); p != product(crc.Power(n-1), 2) {
			t.Fatalf("Power(%d) = %x", n, p)
		}
	}
	for _, n := range []int{math.MaxInt, math.MaxInt - 1, 1 << 62, 1 << 31, 1<<32 + 5} {
		if p := crc.Power(n); p != crc.Power(n%period) || p == 0 {
			t.Errorf("Power(%d) = %x", n, p)
		}
	}
}

// P3.1: a negative exponent.
func TestPowerNegative(t *testing.T) {
	for _, n := range []int{-1, -2, -16, -period, math.MinInt, math.MinInt + 1} {
		if p := crc.Power(n); p != 0 {
			t.Errorf("Power(%d) = %x", n, p)
		}
	}
}

// P3.1
func TestSum(t *testing.T) {
	for n := range 300 {
		for _, s := range []string{sample(n), strings.Repeat("\x00", n), strings.Repeat("\xff", n), "\x01" + strings.Repeat("\x00", n)} {
			if k := crc.Sum(s); k != sum(s) {
				t.Errorf("Sum(%x) = %x, want %x", s, k, sum(s))
			}
		}
	}
	for first := range 256 {
		for _, s := range []string{string([]byte{byte(first)}), string([]byte{byte(first), 0xa5}), string([]byte{0x5a, byte(first)})} {
			if k := crc.Sum(s); k != sum(s) {
				t.Errorf("Sum(%x) = %x, want %x", s, k, sum(s))
			}
		}
	}
	if s := sample(api.MaxData + 1); crc.Sum(s) != sum(s) {
		t.Error("the sum of a long string is wrong")
	}
	if n := crc.Sum(""); n != 0 {
		t.Error(n)
	}
}

// P3.2: however a string is divided.
func TestUpdate(t *testing.T) {
	data := sample(120)
	for i := range len(data) + 1 {
		for _, j := range []int{i, (i + len(data)) / 2, len(data)} {
			n := crc.Update(crc.Update(crc.Sum(data[:i]), data[i:j]), data[j:])
			if n != sum(data) {
				t.Errorf("divided at %d and %d: %x", i, j, n)
			}
		}
	}
	for n := range 1 << 16 {
		if k := crc.Update(uint16(n), ""); k != uint16(n) {
			t.Fatalf("Update(%x, \"\") = %x", n, k)
		}
	}
}

// P3.2: two strings of all lengths up to 40, the empty ones among them, and a long one.
func TestCombine(t *testing.T) {
	for i := range 41 {
		for j := range 41 {
			a, b := sample(i), sample(j)
			if n := crc.Combine(crc.Sum(a), crc.Sum(b), j); n != sum(a+b) {
				t.Errorf("Combine for %d and %d bytes: %x, want %x", i, j, n, sum(a+b))
			}
		}
	}
	a, b := sample(100), sample(100000)
	if n := crc.Combine(crc.Sum(a), crc.Sum(b), len(b)); n != sum(a+b) {
		t.Errorf("%x", n)
	}
}

// P3.2: a negative number of bytes, none, and so many that there is no number of their bits.
func TestCombineNumbers(t *testing.T) {
	sums := []uint16{0, 1, 0x1021, 0x8000, 0xabcd, 0xffff}
	for _, a := range sums {
		for _, b := range sums {
			for _, n := range []int{-1, -2, -period, math.MinInt / 8, math.MinInt} {
				if k := crc.Combine(a, b, n); k != b {
					t.Errorf("Combine(%x, %x, %d) = %x", a, b, n, k)
				}
			}
			if k := crc.Combine(a, b, 0); k != a^b {
				t.Errorf("Combine(%x, %x, 0) = %x", a, b, k)
			}
			for _, n := range []int{1, 1000, 1 << 60, 1 << 61, math.MaxInt} {
				want := product(a, crc.Power(n%period*8)) ^ b
				if k := crc.Combine(a, b, n); k != want {
					t.Errorf("Combine(%x, %x, %d) = %x, want %x", a, b, n, k, want)
				}
			}
		}
	}
}

// P3.3: what is protected is accepted.
func TestProtectAndCheck(t *testing.T) {
	for n := range 300 {
		data := sample(n)
		s := crc.Protect(data)
		if len(s) != n+2 || s[:n] != data || uint16(s[n])<<8|uint16(s[n+1]) != sum(data) {
			t.Errorf("Protect of %x: %x", data, s)
		}
		if text, e := crc.Check(s); text != data || e != api.OK {
			t.Errorf("Check of %x: %x %v", s, text, e)
		}
		if k, e := crc.Syndrome(s); k != 0 || e != api.OK {
			t.Errorf("Syndrome of %x: %x %v", s, k, e)
		}
	}
	if s := crc.Protect(""); s != "\x00\x00" {
		t.Errorf("%x", s)
	}
}

// P3.3: strings of 0 and 1 bytes.
func TestShort(t *testing.T) {
	for _, s := range []string{"", "\x00", "a", "\xff"} {
		if text, e := crc.Check(s); text != "" || e != api.ErrShort {
			t.Errorf("Check(%q): %q %v", s, text, e)
		}
		if n, e := crc.Syndrome(s); n != 0 || e != api.ErrShort {
			t.Errorf("Syndrome(%q): %x %v", s, n, e)
		}
	}
}

// P3.3: in strings of 2 bytes the check sum of the empty string stands alone.
func TestTwoBytes(t *testing.T) {
	for n := range 1 << 16 {
		s := string([]byte{byte(n >> 8), byte(n)})
		if k, e := crc.Syndrome(s); k != uint16(n) || e != api.OK {
			t.Fatalf("Syndrome(%x): %x %v", s, k, e)
		}
		if found(t, s) != (n > 0) {
			t.Fatalf("Check(%x) is wrong", s)
		}
	}
}

// P3.3: the syndrome of any string, and Check, which asks whether it is 0.
func TestSyndrome(t *testing.T) {
	for n := 2; n < 200; n++ {
		s := sample(n)
		want := sum(s[:n-2]) ^ (uint16(s[n-2])<<8 | uint16(s[n-1]))
		if k, e := crc.Syndrome(s); k != want || e != api.OK {
			t.Errorf("Syndrome of %x: %x %v, want %x", s, k, e, want)
		}
		if found(t, s) != (want != 0) {
			t.Errorf("Check of %x is wrong", s)
		}
	}
}

// P3.4: each bit of a protected string is found, unless there are too few bits.
func TestLocate(t *testing.T) {
	for n := range 20 {
		s := crc.Protect(sample(n))
		for i := range 8 * len(s) {
			syndrome, e := crc.Syndrome(flip(s, i))
			if e != api.OK || syndrome != crc.Power(i) {
				t.Errorf("the bit %d of %x: the syndrome is %x %v", i, s, syndrome, e)
			}
			if k, ok := crc.Locate(syndrome, 8*len(s)); k != i || !ok {
				t.Errorf("the bit %d of %x is found at %d %v", i, s, k, ok)
			}
		}
	}
}

// P3.4: the numbers of bits around the place, around the period, and beyond the limit.
func TestLocateBits(t *testing.T) {
	places := []int{0, 1, 2, 15, 16, 17, 1000, 16384, period - 2, period - 1}
	for i := 31; i < period; i += 331 {
		places = append(places, i)
	}
	for _, i := range places {
		syndrome := crc.Power(i)
		for _, bits := range []int{i + 1, i + 2, period, period + 1, 8*api.MaxData - 1, 8 * api.MaxData, 8*api.MaxData + 1, math.MaxInt} {
			if k, ok := crc.Locate(syndrome, bits); ok != (i < bits) || ok && k != i || !ok && k != 0 {
				t.Errorf("Locate of x^%d in %d bits: %d %v", i, bits, k, ok)
			}
		}
		for _, bits := range []int{i, i - 1, 0, -1, math.MinInt} {
			if k, ok := crc.Locate(syndrome, bits); k != 0 || ok {
				t.Errorf("Locate of x^%d in %d bits: %d %v", i, bits, k, ok)
			}
		}
	}
}

// P3.4: of the places of a syndrome it is the least one.
func TestLocateLeast(t *testing.T) {
	for _, i := range []int{0, 1, 7, 30000, period - 1} {
		for _, times := range []int{1, 2, 15} {
			if k, ok := crc.Locate(crc.Power(i+times*period), math.MaxInt); k != i || !ok {
				t.Errorf("Locate of x^%d: %d %v", i+times*period, k, ok)
			}
		}
	}
}

// P3.4: syndromes to which no single bit leads: 0, sums of two powers, and the one odd sum that is no power.
func TestLocateNone(t *testing.T) {
	none := []uint16{0, 3, 0x8001, 0x1020, 0xf01f, 0xffff}
	for i := 1; i < period; i += 1001 {
		none = append(none, crc.Power(i)^1)
	}
	for _, syndrome := range none {
		for _, bits := range []int{math.MinInt, -1, 0, 1, 24, period - 1, period, period + 1, 8 * api.MaxData, 8*api.MaxData + 1, math.MaxInt} {
			if k, ok := crc.Locate(syndrome, bits); k != 0 || ok {
				t.Errorf("Locate(%x, %d): %d %v", syndrome, bits, k, ok)
			}
		}
	}
}

// P3.4: there are as many places as powers.
func TestLocateAll(t *testing.T) {
	seen := make([]bool, period)
	for n := range 1 << 16 {
		k, ok := crc.Locate(uint16(n), 8*api.MaxData)
		if !ok {
			continue
		}
		if crc.Power(k) != uint16(n) || seen[k] {
			t.Fatalf("Locate(%x): %d", n, k)
		}
		seen[k] = true
	}
	for i := range seen {
		if !seen[i] {
			t.Fatalf("nothing is found at %d", i)
		}
	}
}

// P3.5: the sum of the exclusive or of two strings.
func TestLinear(t *testing.T) {
	for n := range 100 {
		a, b := sample(n), sample(n + 1)[:n]
		c := make([]byte, n)
		for i := range c {
			c[i] = a[i] ^ b[i]
		}
		if crc.Sum(string(c)) != crc.Sum(a)^crc.Sum(b) {
			t.Errorf("%x and %x", a, b)
		}
	}
}

// P3.5: one wrong bit.
func TestOneWrongBit(t *testing.T) {
	for _, n := range []int{0, 1, 2, 50, 125, 1000} {
		s := crc.Protect(sample(n))
		for i := range 8 * len(s) {
			if !found(t, flip(s, i)) {
				t.Errorf("the bit %d of %d bytes is wrong, and not found", i, n)
			}
		}
	}
}

// P3.5: two wrong bits, less than 32767 bits apart; at this distance they are not found any more.
func TestTwoWrongBits(t *testing.T) {
	s := crc.Protect(sample(5000))
	for distance := 1; distance < period; distance++ {
		if !found(t, flip(s, 0, distance)) {
			t.Errorf("the bits 0 and %d are wrong, and not found", distance)
		}
	}
	for _, first := range []int{1, 15, 16, 17, 1000, 8*len(s) - 1 - period} {
		for _, distance := range []int{1, 2, 7, 8, 15, 16, 17, 255, 4096, 16384, period - 2, period - 1} {
			if !found(t, flip(s, first, first+distance)) {
				t.Errorf("the bits %d and %d are wrong, and not found", first, first+distance)
			}
		}
		if found(t, flip(s, first, first+period)) {
			t.Errorf("the bits %d and %d lead to a syndrome", first, first+period)
		}
	}
	short := crc.Protect(sample(10))
	for i := range 8 * len(short) {
		for j := range i {
			if !found(t, flip(short, i, j)) {
				t.Errorf("the bits %d and %d are wrong, and not found", i, j)
			}
		}
	}
}

// P3.5: an odd number of wrong bits, wherever they are.
func TestOddWrongBits(t *testing.T) {
	s := crc.Protect(sample(300))
	seed := uint32(1)
	for n := range 5000 {
		wrong, places := s, map[int]bool{}
		for len(places) < 2*(n%40)+1 {
			seed = seed*1664525 + 1013904223
			i := int(seed>>8) % (8 * len(s))
			if !places[i] {
				places[i] = true
				wrong = flip(wrong, i)
			}
		}
		if !found(t, wrong) {
			t.Errorf("%d wrong bits are not found", len(places))
		}
	}
}

// P3.5: all wrong bits are within 16 that follow one another; of 17 the generator itself is not found.
func TestWrongBitsTogether(t *testing.T) {
	s := crc.Protect(sample(10))
	for _, shift := range []int{0, 1, 7, 8, 15, 16, 41, 79, 80} {
		for pattern := range 1 << 16 {
			var places []int
			for i := range 16 {
				if pattern>>i&1 == 1 {
					places = append(places, shift+i)
				}
			}
			if found(t, flip(s, places...)) != (pattern > 0) {
				t.Fatalf("the bits %v are wrong, and not found", places)
			}
		}
		if shift < 80 && found(t, flip(s, shift, shift+5, shift+12, shift+16)) {
			t.Errorf("the generator, shifted by %d, leads to a syndrome", shift)
		}
	}
}

// P1: no call panics, whatever strings and numbers there are.
func TestAllArguments(t *testing.T) {
	numbers := []int{math.MinInt, math.MinInt + 1, -1 << 60, -period, -1, 0, 1, 2, period, 1 << 31, 1 << 60, math.MaxInt - 1, math.MaxInt}
	for _, n := range numbers {
		crc.Power(n)
		for _, a := range []uint16{0, 1, 0x8000, 0xffff} {
			crc.Combine(a, ^a, n)
			if k, ok := crc.Locate(a, n); k < 0 || k > 0 && k >= n || !ok && k != 0 {
				t.Errorf("Locate(%x, %d): %d %v", a, n, k, ok)
			}
		}
	}
	for _, s := range []string{"", "\x00", "\x00\x00", "é", "\xff\xfe\xfd", sample(api.MaxData), sample(1 << 21)} {
		crc.Update(0xffff, s)
		p := crc.Protect(s)
		if text, e := crc.Check(p); text != s || e != api.OK {
			t.Errorf("%d bytes: %v", len(s), e)
		}
		if text, e := crc.Check(s); e != api.OK && text != "" {
			t.Errorf("%d bytes: %v", len(s), e)
		}
	}
}
