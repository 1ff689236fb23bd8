// Package sha computes SHA-256 (FIPS 180-4).
package sha

import (
	"math/bits"

	"planchet/api"
)

const (
	block  = 64 // bytes of a block
	rounds = 64
)

var start = [8]uint32{
	0x6a09e667, 0xbb67ae85, 0x3c6ef372, 0xa54ff53a, 0x510e527f, 0x9b05688c, 0x1f83d9ab, 0x5be0cd19,
}

var constants = [rounds]uint32{
	0x428a2f98, 0x71374491, 0xb5c0fbcf, 0xe9b5dba5, 0x3956c25b, 0x59f111f1, 0x923f82a4, 0xab1c5ed5,
	0xd807aa98, 0x12835b01, 0x243185be, 0x550c7dc3, 0x72be5d74, 0x80deb1fe, 0x9bdc06a7, 0xc19bf174,
	0xe49b69c1, 0xefbe4786, 0x0fc19dc6, 0x240ca1cc, 0x2de92c6f, 0x4a7484aa, 0x5cb0a9dc, 0x76f988da,
	0x983e5152, 0xa831c66d, 0xb00327c8, 0xbf597fc7, 0xc6e00bf3, 0xd5a79147, 0x06ca6351, 0x14292967,
	0x27b70a85, 0x2e1b2138, 0x4d2c6dfc, 0x53380d13, 0x650a7354, 0x766a0abb, 0x81c2c92e, 0x92722c85,
	0xa2bfe8a1, 0xa81a664b, 0xc24b8b70, 0xc76c51a3, 0xd192e819, 0xd6990624, 0xf40e3585, 0x106aa070,
	0x19a4c116, 0x1e376c08, 0x2748774c, 0x34b0bcb5, 0x391c0cb3, 0x4ed8aa4a, 0x5b9cca4f, 0x682e6ff3,
	0x748f82ee, 0x78a5636f, 0x84c87814, 0x8cc70208, 0x90befffa, 0xa4506ceb, 0xbef9a3f7, 0xc67178f2,
}

// Hash is a sum that is being computed.
type Hash struct {
	state [8]uint32
	rest  [block]byte // written, but not yet a whole block
	size  uint64      // bytes written
}

// New returns a hash to which nothing was written.
func New() *Hash {
	h := begin()
	return &h
}

func begin() Hash {
	return Hash{state: start}
}

// Write appends bytes to what was written.
func (h *Hash) Write(b []byte) {
	if h == nil {
		return
	}
	h.add(b)
}

// Sum returns the sum of everything that was written.
func (h *Hash) Sum() api.Digest {
	if h == nil {
		return Sum()
	}
	end := *h // more may be written to h afterwards
	return end.finish()
}

// Sum returns the sum of all parts.
func Sum(parts ...[]byte) api.Digest {
	h := begin()
	for _, p := range parts {
		h.add(p)
	}
	return h.finish()
}

func (h *Hash) add(b []byte) {
	held := int(h.size % block)
	h.size += uint64(len(b))
	if held > 0 {
		n := copy(h.rest[held:], b)
		b = b[n:]
		if held+n < block {
			return
		}
		process(&h.state, h.rest[:])
	}
	for len(b) >= block {
		process(&h.state, b[:block])
		b = b[block:]
	}
	copy(h.rest[:], b)
}

// finish pads what was written; the hash is of no use afterwards.
func (h *Hash) finish() api.Digest {
	size := h.size * 8
	held := int(h.size % block)
	h.rest[held] = 128
	clear(h.rest[held+1:])
	if held+1 > block-8 {
		process(&h.state, h.rest[:])
		clear(h.rest[:])
	}
	for i := range 8 {
		h.rest[block-1-i] = byte(size >> (8 * i))
	}
	process(&h.state, h.rest[:])
	var d api.Digest
	for i, w := range h.state {
		d[4*i], d[4*i+1], d[4*i+2], d[4*i+3] = byte(w>>24), byte(w>>16), byte(w>>8), byte(w)
	}
	return d
}

// schedule computes the words of a block.
func schedule(w *[rounds]uint32, b []byte) {
	for i := range 16 {
		four := b[4*i : 4*i+4]
		w[i] = uint32(four[0])<<24 | uint32(four[1])<<16 | uint32(four[2])<<8 | uint32(four[3])
	}
	for i := 16; i < rounds; i++ {
		x, y := w[i-15], w[i-2]
		s0 := bits.RotateLeft32(x, -7) ^ bits.RotateLeft32(x, -18) ^ x>>3
		s1 := bits.RotateLeft32(y, -17) ^ bits.RotateLeft32(y, -19) ^ y>>10
		w[i] = s1 + w[i-7] + s0 + w[i-16]
	}
}

func process(state *[8]uint32, text []byte) {
	var words [rounds]uint32
	schedule(&words, text)
	a, b, c, d, e, f, g, h := state[0], state[1], state[2], state[3], state[4], state[5], state[6], state[7]
	for i, w := range &words {
		p := h + (bits.RotateLeft32(e, -6) ^ bits.RotateLeft32(e, -11) ^ bits.RotateLeft32(e, -25)) + (g ^ e&(f^g)) + constants[i] + w
		q := (bits.RotateLeft32(a, -2) ^ bits.RotateLeft32(a, -13) ^ bits.RotateLeft32(a, -22)) + (a&b | c&(a|b))
		h, g, f = g, f, e
		e = d + p
		d, c, b = c, b, a
		a = p + q
	}
	state[0] += a
	state[1] += b
	state[2] += c
	state[3] += d
	state[4] += e
	state[5] += f
	state[6] += g
	state[7] += h
}
