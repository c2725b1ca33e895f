// Package digest computes digests of strings with 32 bytes by the function BLAKE2s: see shared/doc/01-digest.md.
package digest

import (
	"math/bits"
	"strings"

	"hopmesh/api"
)

const (
	blockSize = 64
	mostKey   = 32
	digits    = "0123456789abcdef"
)

// initial has the initial words.
var initial = [8]uint32{0x6a09e667, 0xbb67ae85, 0x3c6ef372, 0xa54ff53a, 0x510e527f, 0x9b05688c, 0x1f83d9ab, 0x5be0cd19}

// order has, for each round, the indices of the words of the block in the order in which they are mixed in.
var order = [10][16]uint8{
	{0, 1, 2, 3, 4, 5, 6, 7, 8, 9, 10, 11, 12, 13, 14, 15},
	{14, 10, 4, 8, 9, 15, 13, 6, 1, 12, 0, 2, 11, 7, 5, 3},
	{11, 8, 12, 0, 5, 2, 15, 13, 10, 14, 3, 6, 7, 1, 9, 4},
	{7, 9, 3, 1, 13, 12, 11, 14, 2, 6, 5, 10, 4, 0, 15, 8},
	{9, 0, 5, 7, 2, 4, 10, 15, 14, 1, 11, 12, 6, 8, 3, 13},
	{2, 12, 6, 10, 0, 11, 8, 3, 4, 13, 7, 5, 15, 14, 1, 9},
	{12, 5, 1, 15, 14, 13, 4, 10, 0, 7, 6, 3, 9, 2, 8, 11},
	{13, 11, 7, 14, 12, 1, 3, 9, 5, 0, 15, 4, 8, 6, 2, 10},
	{6, 15, 14, 9, 11, 3, 0, 8, 12, 2, 13, 7, 1, 4, 10, 5},
	{10, 2, 8, 4, 7, 6, 1, 5, 15, 11, 9, 14, 3, 12, 13, 0},
}

// Mix mixes four words of a state with two others.
func Mix(v [4]uint32, x, y uint32) [4]uint32 {
	a, b, c, d := mix(v[0], v[1], v[2], v[3], x, y)
	return [4]uint32{a, b, c, d}
}

func mix(a, b, c, d, x, y uint32) (uint32, uint32, uint32, uint32) {
	a += b + x
	d = bits.RotateLeft32(d^a, -16)
	c += d
	b = bits.RotateLeft32(b^c, -12)
	a += b + y
	d = bits.RotateLeft32(d^a, -8)
	c += d
	b = bits.RotateLeft32(b^c, -7)
	return a, b, c, d
}

// Compress compresses a chain value with a block.
func Compress(h [8]uint32, m [16]uint32, t uint64, last bool) [8]uint32 {
	v := state(h, t, last)
	for r := range order {
		for i := range 8 {
			// The first four mixings take the columns of the state (as a square), the others its diagonals.
			shift := i / 4
			a, b, c, d := i%4, 4+(i+shift)%4, 8+(i+2*shift)%4, 12+(i+3*shift)%4
			v[a], v[b], v[c], v[d] = mix(v[a], v[b], v[c], v[d], m[order[r][2*i]], m[order[r][2*i+1]])
		}
	}
	for i := range h {
		h[i] ^= v[i] ^ v[i+8]
	}
	return h
}

// state returns the words with which compressing begins.
func state(h [8]uint32, t uint64, last bool) [16]uint32 {
	var v [16]uint32
	for i := range h {
		v[i], v[i+8] = h[i], initial[i]
	}
	v[12] ^= uint32(t)
	v[13] ^= uint32(t >> 32)
	if last {
		v[14] = ^v[14]
	}
	return v
}

// words returns the words of a block.
func words(block [blockSize]byte) [16]uint32 {
	var m [16]uint32
	for i := range block {
		m[i/4] |= uint32(block[i]) << (8 * (i % 4))
	}
	return m
}

// Sum returns the digest of a string.
func Sum(data string) string {
	h := New()
	h.Write(data)
	return h.Sum()
}

// Keyed returns the digest of a string with a key.
func Keyed(key, data string) (string, api.Errno) {
	if len(key) > mostKey {
		return "", api.ErrArg
	}
	h := start(len(key))
	if key != "" {
		h.Write(key, strings.Repeat("\x00", blockSize-len(key)))
	}
	h.Write(data)
	return h.Sum(), api.OK
}

// Hex returns the text of a digest.
func Hex(digest string) (string, api.Errno) {
	if len(digest) != api.DigestSize {
		return "", api.ErrArg
	}
	var text [2 * api.DigestSize]byte
	for i := range api.DigestSize {
		text[2*i], text[2*i+1] = digits[digest[i]>>4], digits[digest[i]&15]
	}
	return string(text[:]), api.OK
}

// Parse returns the digest with a text.
func Parse(text string) (string, api.Errno) {
	var digest [api.DigestSize]byte
	if len(text) != 2*len(digest) {
		return "", api.ErrSyntax
	}
	for i := range len(text) {
		n := strings.IndexByte(digits, text[i])
		if n < 0 {
			return "", api.ErrSyntax
		}
		digest[i/2] = digest[i/2]<<4 | byte(n)
	}
	return string(digest[:]), api.OK
}

// Hash takes in strings and gives their digest.
type Hash struct {
	chain [8]uint32
	// block is not compressed before more follows: only then it is known not to be the last one. Behind the bytes in use it is 0.
	block [blockSize]byte
	used  int
	total int
}

// New returns a hash that has taken in nothing.
func New() *Hash { return start(0) }

// start returns the hash with which a digest with a key of some bytes begins.
func start(key int) *Hash {
	h := &Hash{chain: initial}
	h.chain[0] ^= 0x01010020 + 0x100*uint32(key)
	return h
}

// Write takes in strings, and returns how many bytes were taken in since New.
func (h *Hash) Write(parts ...string) int {
	for _, part := range parts {
		h.take(part)
	}
	return h.total
}

func (h *Hash) take(data string) {
	for data != "" {
		if h.used == blockSize {
			h.chain = h.compressed(false)
			h.block, h.used = [blockSize]byte{}, 0
		}
		n := copy(h.block[h.used:], data)
		h.used += n
		h.total += n
		data = data[n:]
	}
}

// compressed returns the chain value behind the present block.
func (h *Hash) compressed(last bool) [8]uint32 {
	return Compress(h.chain, words(h.block), uint64(h.total), last)
}

// Sum returns the digest of what was taken in.
func (h *Hash) Sum() string {
	chain := h.compressed(true)
	var sum [api.DigestSize]byte
	for i := range sum {
		sum[i] = byte(chain[i/4] >> (8 * (i % 4)))
	}
	return string(sum[:])
}

// Clone returns an independent copy.
func (h *Hash) Clone() *Hash {
	c := *h
	return &c
}
