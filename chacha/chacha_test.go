package chacha

import (
	"bytes"
	"encoding/hex"
	"strings"
	"testing"

	"jalousie/api"
)

func fromHex(t *testing.T, s string) []byte {
	t.Helper()
	b, err := hex.DecodeString(strings.Join(strings.Fields(s), ""))
	if err != nil {
		t.Fatal(err)
	}
	return b
}

// rising is the key 0, 1, .., 31 of the RFC's examples.
func rising() api.Hash {
	var key api.Hash
	for i := range key {
		key[i] = byte(i)
	}
	return key
}

func TestBlockOfRFC8439(t *testing.T) {
	got := Block(rising(), [12]byte{0, 0, 0, 9, 0, 0, 0, 74}, 1)
	want := fromHex(t, `10f1e7e4d13b5915500fdd1fa32071c4c7d1f4c733c068030422aa9ac3d46c4e
		d2826446079faa0914c2d705d98b02a2b5129cd1de164eb9cbd083e8a2503c4e`)
	if !bytes.Equal(got[:], want) {
		t.Errorf("2.3.2: %x", got)
	}
	got = Block(api.Hash{}, [12]byte{}, 0)
	want = fromHex(t, `76b8e0ada0f13d90405d6ae55386bd28bdd219b8a08ded1aa836efcc8b770dc7
		da41597c5157488d7724e03fb8d84a376a43b8f41518a11cc387b669b2ee6586`)
	if !bytes.Equal(got[:], want) {
		t.Errorf("A.1, 1: %x", got)
	}
	got = Block(api.Hash{31: 1}, [12]byte{}, 1)
	want = fromHex(t, `3aeb5224ecf849929b9d828db1ced4dd832025e8018b8160b82284f3c949aa5a
		8eca00bbb4a73bdad192b5c42f73f2fd4e273644c8b36125a64addeb006c13a0`)
	if !bytes.Equal(got[:], want) {
		t.Errorf("A.1, 3: %x", got)
	}
	got = Block(api.Hash{}, [12]byte{11: 2}, 0)
	want = fromHex(t, `c2c64d378cd536374ae204b9ef933fcd1a8b2288b3dfa49672ab765b54ee27c7
		8a970e0e955c14f3a88e741b97c286f75f8fc299e8148362fa198a39531bed6d`)
	if !bytes.Equal(got[:], want) {
		t.Errorf("A.1, 5: %x", got)
	}
}

func TestXorOfRFC8439(t *testing.T) {
	text := []byte("Ladies and Gentlemen of the class of '99: If I could offer you only one tip for the future, sunscreen would be it.")
	want := fromHex(t, `6e2e359a2568f98041ba0728dd0d6981e97e7aec1d4360c20a27afccfd9fae0b
		f91b65c5524733ab8f593dabcd62b3571639d624e65152ab8f530c359f0861d8
		07ca0dbf500d6a6156a38e088a22b65e52bc514d16ccf806818ce91ab7793736
		5af90bbf74a35be6b40b8eedf2785e42874d`)
	if got := Xor(rising(), [12]byte{7: 74}, 1, text); !bytes.Equal(got, want) {
		t.Errorf("%x", got)
	}
}

func TestStreamIsTheBlocksOneBehindTheOther(t *testing.T) {
	key, nonce := rising(), [12]byte{1, 2, 3}
	for _, counter := range []uint32{0, 1, 77, 1<<32 - 2, 1<<32 - 1} {
		var want []byte
		for i := range uint32(6) {
			block := Block(key, nonce, counter+i)
			want = append(want, block[:]...)
		}
		for n := range len(want) + 1 {
			got, e := Stream(key, nonce, counter, n)
			if e != api.OK || !bytes.Equal(got, want[:n]) {
				t.Fatalf("counter %d, %d bytes: %x, %d", counter, n, got, e)
			}
		}
	}
}

func TestStreamRefusesLengths(t *testing.T) {
	for _, n := range []int{-1, -1 << 63, 65537, 1<<63 - 1} {
		if b, e := Stream(api.Hash{}, [12]byte{}, 0, n); e != api.ErrArg || len(b) != 0 {
			t.Errorf("%d: %d bytes, %d", n, len(b), e)
		}
	}
	if b, e := Stream(api.Hash{}, [12]byte{}, 0, 65536); e != api.OK || len(b) != 65536 {
		t.Errorf("65536: %d bytes, %d", len(b), e)
	}
}

func TestXorTurnsByTheStreamAndBack(t *testing.T) {
	key, nonce := rising(), [12]byte{5}
	for _, n := range []int{0, 1, 63, 64, 65, 1000, 65536, 70001} {
		b := bytes.Repeat([]byte("abcdefg"), n/7+1)[:n]
		keep := bytes.Clone(b)
		turned := Xor(key, nonce, 1<<32-3, b)
		if !bytes.Equal(b, keep) || len(turned) != n {
			t.Fatalf("%d: the argument was changed, or %d bytes came", n, len(turned))
		}
		if n > 0 && bytes.Equal(turned, b) {
			t.Errorf("%d: nothing is turned", n)
		}
		if got := Xor(key, nonce, 1<<32-3, turned); !bytes.Equal(got, b) {
			t.Errorf("%d: it isn't undone", n)
		}
		if n > 65536 {
			continue
		}
		stream, _ := Stream(key, nonce, 1<<32-3, n)
		for i := range stream {
			if turned[i] != b[i]^stream[i] {
				t.Fatalf("%d: the byte %d", n, i)
			}
		}
	}
}
