// Package hash is layer 1: fingerprints and what comes of keys (chapter 01-hash).
package hash

import (
	"jalousie/api"
)

const (
	sumBytes   = 32
	mostExpand = 255 * sumBytes
)

// Sum is SHA-256 of all parts, joined.
func Sum(parts ...[]byte) api.Hash {
	d := begin()
	d.putAll(parts...)
	return d.end()
}

// Mac is HMAC of the parts, joined, by a key of any length.
func Mac(key []byte, parts ...[]byte) api.Hash {
	var pad [blockBytes]byte
	if len(key) > blockBytes {
		short := Sum(key)
		copy(pad[:], short[:])
	} else {
		copy(pad[:], key)
	}
	ahead, behind := masked(pad, 0x36), masked(pad, 0x5c)
	inner := begin()
	inner.put(ahead[:])
	inner.putAll(parts...)
	sum := inner.end()
	return Sum(behind[:], sum[:])
}

// masked is a block with each byte turned by the mask.
func masked(block [blockBytes]byte, mask byte) [blockBytes]byte {
	for i := range block {
		block[i] ^= mask
	}
	return block
}

// Extract is HKDF's first step: a key of a secret.
func Extract(salt, secret []byte) api.Hash {
	return Mac(salt, secret)
}

// Expand is HKDF's second step: n bytes of a key.
func Expand(key api.Hash, info []byte, n int) ([]byte, api.Errno) {
	if n < 0 || n > mostExpand {
		return nil, api.ErrArg
	}
	out := make([]byte, 0, n+sumBytes)
	var last []byte
	for i := byte(1); len(out) < n; i++ {
		next := Mac(key[:], last, info, []byte{i})
		last = next[:]
		out = append(out, last...)
	}
	return out[:n:n], api.OK
}

// Derive is the key that comes of a key for a label.
func Derive(key api.Hash, label string) api.Hash {
	b, _ := Expand(key, []byte(label), sumBytes)
	return api.Hash(b)
}
