package hash

import (
	"math/bits"

	"jalousie/api"
)

const (
	blockBytes  = 64
	lengthBytes = 8
)

// rounds are the words of the 64 rounds (FIPS 180-4, 4.2.2).
var rounds = [64]uint32{
	0x428a2f98, 0x71374491, 0xb5c0fbcf, 0xe9b5dba5, 0x3956c25b, 0x59f111f1, 0x923f82a4, 0xab1c5ed5,
	0xd807aa98, 0x12835b01, 0x243185be, 0x550c7dc3, 0x72be5d74, 0x80deb1fe, 0x9bdc06a7, 0xc19bf174,
	0xe49b69c1, 0xefbe4786, 0x0fc19dc6, 0x240ca1cc, 0x2de92c6f, 0x4a7484aa, 0x5cb0a9dc, 0x76f988da,
	0x983e5152, 0xa831c66d, 0xb00327c8, 0xbf597fc7, 0xc6e00bf3, 0xd5a79147, 0x06ca6351, 0x14292967,
	0x27b70a85, 0x2e1b2138, 0x4d2c6dfc, 0x53380d13, 0x650a7354, 0x766a0abb, 0x81c2c92e, 0x92722c85,
	0xa2bfe8a1, 0xa81a664b, 0xc24b8b70, 0xc76c51a3, 0xd192e819, 0xd6990624, 0xf40e3585, 0x106aa070,
	0x19a4c116, 0x1e376c08, 0x2748774c, 0x34b0bcb5, 0x391c0cb3, 0x4ed8aa4a, 0x5b9cca4f, 0x682e6ff3,
	0x748f82ee, 0x78a5636f, 0x84c87814, 0x8cc70208, 0x90befffa, 0xa4506ceb, 0xbef9a3f7, 0xc67178f2,
}

// A digest is a SHA-256 under way: its words, and the bytes that don't fill a block yet.
type digest struct {
	words [8]uint32
	held  [blockBytes]byte
	count int
	total uint64
}

// begin is a digest of nothing yet: its words are those of FIPS 180-4, 5.3.3.
func begin() digest {
	return digest{words: [8]uint32{
		0x6a09e667, 0xbb67ae85, 0x3c6ef372, 0xa54ff53a, 0x510e527f, 0x9b05688c, 0x1f83d9ab, 0x5be0cd19,
	}}
}

func (d *digest) putAll(parts ...[]byte) {
	for _, part := range parts {
		d.put(part)
	}
}

func (d *digest) put(b []byte) {
	d.total += uint64(len(b))
	if d.count > 0 {
		n := copy(d.held[d.count:], b)
		d.count += n
		b = b[n:]
		if d.count < blockBytes {
			return
		}
		d.turn(d.held[:])
	}
	for len(b) >= blockBytes {
		d.turn(b[:blockBytes])
		b = b[blockBytes:]
	}
	d.count = copy(d.held[:], b)
}

// end puts a bit 1, noughts and how many bits there were behind all, so that the last block is full.
func (d *digest) end() api.Hash {
	bitCount := d.total * 8
	var tail [2 * blockBytes]byte
	tail[0] = 0x80
	n := blockBytes - d.count
	if n < 1+lengthBytes {
		n += blockBytes
	}
	for i := range lengthBytes {
		tail[n-1-i] = byte(bitCount >> (8 * i))
	}
	d.put(tail[:n])
	var sum api.Hash
	for i, word := range d.words {
		sum[4*i] = byte(word >> 24)
		sum[4*i+1] = byte(word >> 16)
		sum[4*i+2] = byte(word >> 8)
		sum[4*i+3] = byte(word)
	}
	return sum
}

// turn works one block into the words (FIPS 180-4, 6.2.2).
func (d *digest) turn(block []byte) {
	plan := planned(block)
	w := &d.words
	a, b, c, e, f, g, h := w[0], w[1], w[2], w[4], w[5], w[6], w[7]
	fourth := w[3]
	for i := range plan {
		mix := bits.RotateLeft32(e, -6) ^ bits.RotateLeft32(e, -11) ^ bits.RotateLeft32(e, -25)
		first := h + mix + (g ^ e&(f^g)) + rounds[i] + plan[i]
		mix = bits.RotateLeft32(a, -2) ^ bits.RotateLeft32(a, -13) ^ bits.RotateLeft32(a, -22)
		second := mix + (a&b | c&(a|b))
		h, g, f, e = g, f, e, fourth+first
		fourth, c, b, a = c, b, a, first+second
	}
	w[0] += a
	w[1] += b
	w[2] += c
	w[3] += fourth
	w[4] += e
	w[5] += f
	w[6] += g
	w[7] += h
}

// planned is a block's words, and the 48 that come of them.
func planned(block []byte) (plan [64]uint32) {
	for i := range 16 {
		b := block[4*i : 4*i+4]
		plan[i] = uint32(b[0])<<24 | uint32(b[1])<<16 | uint32(b[2])<<8 | uint32(b[3])
	}
	for i := 16; i < 64; i++ {
		x, y := plan[i-15], plan[i-2]
		low := bits.RotateLeft32(x, -7) ^ bits.RotateLeft32(x, -18) ^ x>>3
		high := bits.RotateLeft32(y, -17) ^ bits.RotateLeft32(y, -19) ^ y>>10
		plan[i] = plan[i-16] + low + plan[i-7] + high
	}
	return plan
}
