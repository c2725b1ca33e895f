package digest_test

import (
	"math/bits"
	"strings"
	"testing"

	"hopmesh/api"
	"hopmesh/digest"
)

// sample returns a string of n bytes in which no two blocks are the same.
func sample(n int) string {
	s := make([]byte, n)
	for i := range s {
		s[i] = byte(7*i + i/251)
	}
	return string(s)
}

// key returns a key with the bytes 1 to n.
func key(n int) string {
	s := make([]byte, n)
	for i := range s {
		s[i] = byte(i + 1)
	}
	return string(s)
}

// text returns the text of a digest that has to have its length.
func text(t *testing.T, d string) string {
	t.Helper()
	s, e := digest.Hex(d)
	if e != api.OK {
		t.Errorf("Hex(%q): %v", d, e)
	}
	return s
}

// unmix goes back from the result of Mix, step by step.
func unmix(v [4]uint32, x, y uint32) [4]uint32 {
	a, b, c, d := v[0], v[1], v[2], v[3]
	b = bits.RotateLeft32(b, 7) ^ c
	c -= d
	d = bits.RotateLeft32(d, 8) ^ a
	a -= b + y
	b = bits.RotateLeft32(b, 12) ^ c
	c -= d
	d = bits.RotateLeft32(d, 16) ^ a
	a -= b + x
	return [4]uint32{a, b, c, d}
}

// P1.1
func TestMix(t *testing.T) {
	for _, x := range []struct {
		v    [4]uint32
		x, y uint32
		want [4]uint32
	}{
		{[4]uint32{}, 0, 0, [4]uint32{}},
		{[4]uint32{1, 0, 0, 0}, 0, 0, [4]uint32{17, 539099650, 285278464, 285212928}},
		{[4]uint32{0x01234567, 0x89abcdef, 0xfedcba98, 0x76543210}, 0xdeadbeef, 0xcafebabe, [4]uint32{0x7770f6a4, 0x10527b2c, 0x6bc8ffa9, 0x8c9725e9}},
		{[4]uint32{0xffffffff, 0xffffffff, 0xffffffff, 0xffffffff}, 0xffffffff, 0xffffffff, [4]uint32{0xfffdc, 0x3db81be4, 0xdc020dfe, 0xdc000dff}},
	} {
		if v := digest.Mix(x.v, x.x, x.y); v != x.want {
			t.Errorf("Mix(%x, %x, %x) = %x, want %x", x.v, x.x, x.y, v, x.want)
		}
	}
}

// P1.4: mixing can be undone.
func TestMixUndone(t *testing.T) {
	v, x, y := [4]uint32{1, 2, 3, 4}, uint32(5), uint32(6)
	for range 1000 {
		m := digest.Mix(v, x, y)
		if back := unmix(m, x, y); back != v {
			t.Fatalf("Mix(%x, %x, %x) = %x goes back to %x", v, x, y, m, back)
		}
		v, x, y = m, y+0x9e3779b9, x^m[0]
	}
}

// P1.1: the count uses both words, and the flag is that of the last block. (The results are those of another implementation.)
func TestCompress(t *testing.T) {
	var h [8]uint32
	var m [16]uint32
	for i := range h {
		h[i] = 0x01234567 * uint32(i+1)
	}
	for i := range m {
		m[i] = 0x89abcdef * uint32(i+3)
	}
	for _, x := range []struct {
		t    uint64
		last bool
		want [8]uint32
	}{
		{0x0, false, [8]uint32{0x67d3d73f, 0xcda0636d, 0x22004b80, 0xea689eaf, 0xaf55f1f6, 0x81f5c001, 0xa3211b0e, 0x58620e95}},
		{0x0, true, [8]uint32{0x3595de31, 0x63f2488c, 0x9b4247df, 0x18d834bc, 0x45eeff09, 0xe7db3ffd, 0xaeefaaa0, 0x9c9940a9}},
		{0x40, false, [8]uint32{0xbbc2f027, 0x91792bca, 0x5e40a657, 0xc02759cd, 0xf98690b2, 0x51d5f63b, 0xbc8964ed, 0xfc3c9613}},
		{0xffffffff, false, [8]uint32{0xd1771e4c, 0x018ca84d, 0xc60739f6, 0x48d82ddf, 0xa235f1e8, 0xa8eb67a6, 0x68ed2013, 0xbb57b450}},
		{0x100000000, false, [8]uint32{0x4c92b99e, 0xd4e43cda, 0x20009439, 0x603212f4, 0xbf40217e, 0x23146c72, 0xefe57a7e, 0xa9ed5a1b}},
		{0xffffffffffffffff, true, [8]uint32{0xcbf74f73, 0xd87e831f, 0xceb3fa8e, 0x3b512470, 0x8dea048c, 0x3d8463bc, 0x51050775, 0xec037b54}},
	} {
		if v := digest.Compress(h, m, x.t, x.last); v != x.want {
			t.Errorf("Compress(%d, %v) = %x, want %x", x.t, x.last, v, x.want)
		}
	}
}

// P1.1: strings around the length of a block, with keys of all kinds. (The digests are those of another implementation.)
func TestSumAndKeyed(t *testing.T) {
	for _, x := range []struct {
		key, data int
		want      string
	}{
		{0, 0, "69217a3079908094e11121d042354a7c1f55b6482ca1a51e1b250dfd1ed0eef9"},
		{0, 1, "e34d74dbaf4ff4c6abd871cc220451d2ea2648846c7757fbaac82fe51ad64bea"},
		{0, 63, "8711b32e3542deae1acce6409fec6577d9ca7daf80e1dcb5534236beea38e6b3"},
		{0, 64, "b09537398e20f8cd56dca19d34b4b467633721bef880f40f2f707ebffd097551"},
		{0, 65, "8936ffcf32a157440820fc06674e4682f76fe78fa7184bfad264c2f6eff6a151"},
		{0, 127, "e75dc97ed5109a0511a064ffecc29b07676d5532ab9d1455aa18ec998a3020e6"},
		{0, 128, "9462ab46c9c7779556af81a31d87fe184e631d5e4836bbda5998669d86a6544b"},
		{0, 129, "9f8fd169776b12dcccd43b31edd795c1542759f975cc5842e88355a96c38234b"},
		{0, 1000, "4e21ebcf5b9605782268030beac96a8462032b9ba0a1b9397b68e066413a64ad"},
		{1, 0, "29f9691fe445d12f36b171eb231c99a00f62c0ba9c618b5ab67535c24eab67fe"},
		{1, 1, "11d16ad8f891be90135f574a75f69f22f697ce47055064b343f1e22fe853dd81"},
		{1, 63, "3a1ceff91887575e56347bb281567e9ec220d3211c483a0e0e403acacb9552be"},
		{1, 64, "6d23494b88f618b547a81ae3501aef87382104b45a5fe15066b07b95d50dd822"},
		{1, 65, "1fd83db5a695642352405d3da4c5df1cf708201c5debbc5b88934a65fed6e476"},
		{1, 127, "9bb35187cb3e680eb96450ecfe2df072047844613db076fb5b435c63847fe8f3"},
		{1, 128, "214f31322c2ea03527c6110fc5e6407e3b1acafaf58de43d4f4cdea0ac4bffce"},
		{1, 129, "eaf2ce4ab9cce0140586b15078b4ec592fea9221d0e5083571ed5b29f6a2ba62"},
		{1, 1000, "d6a04283ecc3488593e0363fc94bb71743bc92d8005eaba4f30bb382bbc4c6d7"},
		{31, 0, "4574661e3356d9874b1671ada047a57c621fc6293c7b082214d8917c4b2e451f"},
		{31, 1, "fceb54a2f218a8baeb983d3d48f1a6f44729b85af02914c093b49e2277056d84"},
		{31, 63, "7015d8428b609f78ba072cb7664cef45ba96c1169423855fd2546c5d1d057d47"},
		{31, 64, "8422d90f6f1643601307a6934c46743119c5c559dddb19aa624a896a0fb842af"},
		{31, 65, "f1cc54646dfd8a628cc29b590b6d9e81d3d835c84cf5c3c9db8bf158db3bbe38"},
		{31, 127, "10dc28365da4c365dc3f5995e73e0c4e59b7f996e622cec66c70c25489822db2"},
		{31, 128, "eeecbead7002543c4187c7083c870e9e9236819d7939c5177c0d857e0717d206"},
		{31, 129, "ee886672226a1dc85387311806ed12b693c815e99aa8315105e35b3450eae118"},
		{31, 1000, "140a34319e773a3a7a8e1f4e2db0422a532513773c54bafcd9eeef345d4d4161"},
		{32, 0, "f4825375fde3a8fca14cb1d1ec3fb9da1ec59b065bbc8bc600f6f9e27b6dfc0c"},
		{32, 1, "d63a16bfb0e285dd0d06c40fb7b30355d2c9a72ef936bd35d1c108ca3322aaff"},
		{32, 63, "79f7fba39559e39b1d97ead59e182e783cf125305723821208756c89c6dc6437"},
		{32, 64, "cd92dcc333eb7cb964f4bd577c2c52ece0cced6f7e8741c945b4e05124348158"},
		{32, 65, "bca009df570dd02d093e3997077d1006400c5f0e0af0703f07bbff3514830324"},
		{32, 127, "6ae3925a46eb22f3b98142320c568f5b34cd9b1ff8f646c73b4bdfa1bd4e5332"},
		{32, 128, "693114bed23cbb18fc3af9c4040a7c265155ac8cf9e36299b52d889a20d14310"},
		{32, 129, "76bf3236f968ab42836de20e62e47906924ac921563391b88ccf0e4d4344b5ec"},
		{32, 1000, "8883819205b046f99154d0182e16c76b827e933bcc65c6d8656c3d3ed4889e26"},
	} {
		d, e := digest.Keyed(key(x.key), sample(x.data))
		if e != api.OK || text(t, d) != x.want {
			t.Errorf("Keyed with %d and %d bytes: %x %v, want %s", x.key, x.data, d, e, x.want)
		}
		if x.key > 0 {
			continue
		}
		if d := digest.Sum(sample(x.data)); text(t, d) != x.want {
			t.Errorf("Sum of %d bytes: %x, want %s", x.data, d, x.want)
		}
	}
}

// P1.1: the examples of the chapter.
func TestSumExamples(t *testing.T) {
	if s := text(t, digest.Sum("")); s != "69217a3079908094e11121d042354a7c1f55b6482ca1a51e1b250dfd1ed0eef9" {
		t.Error(s)
	}
	if s := text(t, digest.Sum("abc")); s != "508c5e8c327c14e2e1a72ba34eeb452f37458b209ed63a294d999b4c86675982" {
		t.Error(s)
	}
}

// P1.1: a key may have 32 bytes, and not more; bytes 0 at its end count.
func TestKeyedKeys(t *testing.T) {
	for _, n := range []int{33, 64, 65, 1000} {
		if d, e := digest.Keyed(key(n), "abc"); d != "" || e != api.ErrArg {
			t.Errorf("a key of %d bytes: %x %v", n, d, e)
		}
	}
	seen := map[string]int{}
	for n := range 33 {
		d, e := digest.Keyed(strings.Repeat("\x00", n), "abc")
		if e != api.OK || len(d) != api.DigestSize {
			t.Errorf("a key of %d bytes: %x %v", n, d, e)
		}
		if m, ok := seen[d]; ok {
			t.Errorf("keys of %d and %d bytes 0 have the same digest", m, n)
		}
		seen[d] = n
	}
}

// P1.4: with the empty key Keyed is Sum.
func TestKeyedEmpty(t *testing.T) {
	for n := range 300 {
		if d, e := digest.Keyed("", sample(n)); e != api.OK || d != digest.Sum(sample(n)) {
			t.Errorf("%d bytes: %x %v", n, d, e)
		}
	}
}

// P1.2: Write counts all bytes since New, also if there are none.
func TestHashWrite(t *testing.T) {
	h := digest.New()
	if h.Sum() != digest.Sum("") {
		t.Error("a new hash has taken in something")
	}
	if n := h.Write(); n != 0 {
		t.Error(n)
	}
	if n := h.Write("", ""); n != 0 {
		t.Error(n)
	}
	if n := h.Write("ab", "", "c"); n != 3 {
		t.Error(n)
	}
	if n := h.Write(sample(200)); n != 203 {
		t.Error(n)
	}
	if n := h.Write(); n != 203 {
		t.Error(n)
	}
	if h.Sum() != digest.Sum("abc"+sample(200)) {
		t.Error("Sum is not that of what was written")
	}
}

// P1.2: after Sum more can be written, and Sum changes nothing.
func TestHashSum(t *testing.T) {
	h, data := digest.New(), sample(200)
	for n := range data {
		if h.Sum() != digest.Sum(data[:n]) || h.Sum() != digest.Sum(data[:n]) {
			t.Errorf("Sum is wrong after %d bytes", n)
		}
		if k := h.Write(data[n : n+1]); k != n+1 {
			t.Errorf("Write returns %d after %d bytes", k, n+1)
		}
	}
}

// P1.2: neither of a hash and its copy sees what is written to the other one.
func TestHashClone(t *testing.T) {
	for _, n := range []int{0, 1, 63, 64, 65, 127, 128, 129} {
		data := sample(n)
		h := digest.New()
		h.Write(data)
		c := h.Clone()
		if k := c.Write("copy"); k != n+4 {
			t.Error(n, k)
		}
		if h.Sum() != digest.Sum(data) {
			t.Errorf("after %d bytes the hash changes with its copy", n)
		}
		if k := h.Write("original", sample(100)); k != n+108 {
			t.Error(n, k)
		}
		if c.Sum() != digest.Sum(data+"copy") || h.Sum() != digest.Sum(data+"original"+sample(100)) {
			t.Errorf("after %d bytes the copy changes with the hash", n)
		}
	}
}

// P1.4: how a string is divided among calls does not matter.
func TestHashDivided(t *testing.T) {
	data := sample(193)
	want := digest.Sum(data)
	for i := range len(data) + 1 {
		for _, j := range []int{i, (i + len(data)) / 2, len(data)} {
			h := digest.New()
			h.Write(data[:i], data[i:j])
			if n := h.Write(data[j:]); n != len(data) || h.Sum() != want {
				t.Errorf("divided at %d and %d: %d bytes, %x", i, j, n, h.Sum())
			}
		}
	}
}

// P1.3
func TestHexAndParse(t *testing.T) {
	for first := range 256 {
		d := make([]byte, 32)
		for i := range d {
			d[i] = byte(first + 5*i)
		}
		s := text(t, string(d))
		if len(s) != 64 || strings.Trim(s, "0123456789abcdef") != "" {
			t.Errorf("the text of %x is %q", d, s)
		}
		if back, e := digest.Parse(s); back != string(d) || e != api.OK {
			t.Errorf("%q is the text of %x %v, not of %x", s, back, e, d)
		}
	}
	if s := text(t, "\x01\x23\x45\x67\x89\xab\xcd\xef"+strings.Repeat("\xf0", 24)); s != "0123456789abcdef"+strings.Repeat("f0", 24) {
		t.Error(s)
	}
}

// P1.3: strings that are no digests.
func TestHexErrors(t *testing.T) {
	for _, n := range []int{0, 1, 31, 33, 64, 1000} {
		if s, e := digest.Hex(sample(n)); s != "" || e != api.ErrArg {
			t.Errorf("%d bytes: %q %v", n, s, e)
		}
	}
}

// P1.3: strings that are no texts of digests: of another length, or with any other byte anywhere.
func TestParseErrors(t *testing.T) {
	for _, n := range []int{0, 1, 2, 32, 62, 63, 65, 66, 128} {
		if d, e := digest.Parse(strings.Repeat("0", n)); d != "" || e != api.ErrSyntax {
			t.Errorf("%d digits: %x %v", n, d, e)
		}
	}
	for i := range 64 {
		for c := range 256 {
			s := []byte(strings.Repeat("a", 64))
			s[i] = byte(c)
			want := api.ErrSyntax
			if strings.IndexByte("0123456789abcdef", byte(c)) >= 0 {
				want = api.OK
			}
			if d, e := digest.Parse(string(s)); e != want || e != api.OK && d != "" {
				t.Errorf("the byte %d at %d: %x %v", c, i, d, e)
			}
		}
	}
}

// P1: no call panics, whatever strings, words and counts there are, and results have their length or are empty.
func TestAllArguments(t *testing.T) {
	for _, s := range []string{"", "\x00", "\xff\xfe", sample(31), sample(32), sample(33), sample(64), strings.Repeat("é", 32), sample(1 << 20)} {
		if d := digest.Sum(s); len(d) != 32 {
			t.Errorf("Sum of %d bytes has %d", len(s), len(d))
		}
		if d, e := digest.Keyed(s, s); (e == api.OK) != (len(s) <= 32) || (e == api.OK) != (len(d) == 32) {
			t.Errorf("Keyed with %d bytes: %x %v", len(s), d, e)
		}
		if x, e := digest.Hex(s); (e == api.OK) != (len(s) == 32) || (e == api.OK) != (len(x) == 64) {
			t.Errorf("Hex of %d bytes: %q %v", len(s), x, e)
		}
		if d, e := digest.Parse(s); d != "" || e != api.ErrSyntax {
			t.Errorf("Parse of %d bytes: %x %v", len(s), d, e)
		}
		h := digest.New()
		if h.Write(s, s, s) != 3*len(s) || h.Clone().Sum() != digest.Sum(s+s+s) {
			t.Errorf("Write of %d bytes", len(s))
		}
	}
}
