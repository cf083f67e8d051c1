package poly

import (
	"bytes"
	"encoding/hex"
	"math/big"
	"math/rand"
	"slices"
	"testing"

	"jalousie/api"
)

// slow is Poly1305 by the RFC's words, with numbers of any size.
func slow(key api.Hash, text []byte) [16]byte {
	r := bytes.Clone(key[:16])
	for _, i := range []int{3, 7, 11, 15} {
		r[i] &= 15
	}
	for _, i := range []int{4, 8, 12} {
		r[i] &= 252
	}
	number := func(b []byte) *big.Int {
		c := bytes.Clone(b)
		slices.Reverse(c)
		return new(big.Int).SetBytes(c)
	}
	p := new(big.Int).Sub(new(big.Int).Lsh(big.NewInt(1), 130), big.NewInt(5))
	sum := new(big.Int)
	for block := range slices.Chunk(text, 16) {
		sum.Add(sum, number(append(bytes.Clone(block), 1)))
		sum.Mul(sum, number(r)).Mod(sum, p)
	}
	sum.Add(sum, number(key[16:]))
	all := sum.FillBytes(make([]byte, 40))
	slices.Reverse(all)
	return [16]byte(all)
}

func TestCodeOfRFC8439(t *testing.T) {
	key, err := hex.DecodeString("85d6be7857556d337f4452fe42d506a80103808afb0db2fd4abff6af4149f51b")
	if err != nil {
		t.Fatal(err)
	}
	want := [16]byte{0xa8, 0x06, 0x1d, 0xc1, 0x30, 0x51, 0x36, 0xc6, 0xc2, 0x2b, 0x8b, 0xaf, 0x0c, 0x01, 0x27, 0xa9}
	if got := Code(api.Hash(key), []byte("Cryptographic Forum Research Group")); got != want {
		t.Errorf("%x", got)
	}
}

// The cases of RFC 8439, A.3, whose sums come near to, or above, 2^130 - 5.
func TestCodeOfHardSums(t *testing.T) {
	full := bytes.Repeat([]byte{255}, 16)
	cases := []struct {
		key  api.Hash
		text []byte
		want [16]byte
	}{
		{api.Hash{0: 2}, full, [16]byte{0: 3}},
		{api.Hash(append([]byte{0: 2, 15: 0}, full...)), append([]byte{2}, make([]byte, 15)...), [16]byte{0: 3}},
		{api.Hash{0: 1}, slices.Concat(full, append([]byte{0xf0}, full[1:]...), append([]byte{0x11}, make([]byte, 15)...)), [16]byte{0: 5}},
		{api.Hash{0: 1}, slices.Concat(full, append([]byte{0xfb}, bytes.Repeat([]byte{0xfe}, 15)...), bytes.Repeat([]byte{1}, 16)), [16]byte{}},
		{api.Hash{0: 2}, append([]byte{0xfd}, full[1:]...), [16]byte(append([]byte{0xfa}, full[1:]...))},
	}
	for i, c := range cases {
		if got := Code(c.key, c.text); got != c.want || slow(c.key, c.text) != c.want {
			t.Errorf("%d: %x, want %x", i, got, c.want)
		}
	}
}

func TestCodeAtAllLengths(t *testing.T) {
	random := rand.New(rand.NewSource(1))
	for n := range 210 {
		var key api.Hash
		text := make([]byte, n)
		if n >= 200 {
			text = make([]byte, 997*n)
		}
		random.Read(key[:])
		random.Read(text)
		if n%3 == 0 {
			for i := range text {
				text[i] = 255
			}
			for i := range 16 {
				key[i] = 255
			}
		}
		if got, want := Code(key, text), slow(key, text); got != want {
			t.Fatalf("%d: %x, want %x", n, got, want)
		}
	}
}

func TestCodeJoinsItsParts(t *testing.T) {
	var key api.Hash
	text := make([]byte, 70)
	random := rand.New(rand.NewSource(2))
	random.Read(key[:])
	random.Read(text)
	want, keep := Code(key, text), bytes.Clone(text)
	for i := 0; i <= len(text); i++ {
		for j := i; j <= len(text); j++ {
			if got := Code(key, text[:i], nil, text[i:j], []byte{}, text[j:]); got != want {
				t.Fatalf("cut at %d, %d: %x", i, j, got)
			}
		}
	}
	if Code(key) != Code(key, nil, []byte{}) || Code(key) != [16]byte(key[16:]) {
		t.Error("the code of nothing isn't s")
	}
	if !bytes.Equal(text, keep) {
		t.Error("an argument was changed")
	}
}

func TestEqual(t *testing.T) {
	a := []byte{1, 2, 3}
	if !Equal(a, []byte{1, 2, 3}) || !Equal(nil, []byte{}) || !Equal(nil, nil) {
		t.Error("what is equal isn't")
	}
	for _, b := range [][]byte{nil, {}, {1, 2}, {1, 2, 3, 0}, {1, 2, 4}, {0, 2, 3}, {1, 3, 3}, {3, 2, 1}} {
		if Equal(a, b) || Equal(b, a) {
			t.Error(b)
		}
	}
}
