package seal

import (
	"bytes"
	"encoding/hex"
	"errors"
	"math/rand"
	"strings"
	"testing"

	"jalousie/api"
)

func fromHex(t *testing.T, s string) []byte {
	t.Helper()
	b, err := hex.DecodeString(strings.Join(strings.Fields(s), ""))
	if err != nil {
		t.Fatal(err)
	}
	return b
}

func TestSealOfRFC8439(t *testing.T) {
	var key api.Hash
	for i := range key {
		key[i] = byte(0x80 + i)
	}
	nonce := [12]byte{7, 0, 0, 0, 0x40, 0x41, 0x42, 0x43, 0x44, 0x45, 0x46, 0x47}
	ad := fromHex(t, "50515253c0c1c2c3c4c5c6c7")
	text := []byte("Ladies and Gentlemen of the class of '99: If I could offer you only one tip for the future, sunscreen would be it.")
	want := fromHex(t, `d31a8d34648e60db7b86afbc53ef7ec2a4aded51296e08fea9e2b5a736ee62d6
		3dbea45e8ca9671282fafb69da92728b1a71de0a9e060b2905d6a5b67ecd3b36
		92ddbd7f2d778b8c9803aee328091b58fab324e4fad675945585808b4831d7bc
		3ff4def08e4b7a9de576d26586cec64b6116 1ae10b594f09e26a7e902ecbd0600691`)
	if got := Seal(key, nonce, text, ad); !bytes.Equal(got, want) {
		t.Errorf("%x", got)
	}
	if got, e := Open(key, nonce, want, ad); e != api.OK || !bytes.Equal(got, text) {
		t.Errorf("%q, %d", got, e)
	}
}

func TestWhatIsSealedIsOpened(t *testing.T) {
	random := rand.New(rand.NewSource(1))
	for n := range 150 {
		var key api.Hash
		var nonce [12]byte
		text, ad := make([]byte, n), make([]byte, random.Intn(40))
		random.Read(key[:])
		random.Read(nonce[:])
		random.Read(text)
		random.Read(ad)
		keep := bytes.Clone(text)
		sealed := Seal(key, nonce, text, ad)
		if len(sealed) != n+16 {
			t.Fatalf("%d bytes sealed have %d", n, len(sealed))
		}
		got, e := Open(key, nonce, sealed, ad)
		if e != api.OK || !bytes.Equal(got, keep) || !bytes.Equal(text, keep) {
			t.Fatalf("%d: %x, %d", n, got, e)
		}
	}
}

func TestOpenRefusesWhatIsOther(t *testing.T) {
	key, nonce, ad := api.Hash{1}, Nonce(2, 3), []byte("ad")
	sealed := Seal(key, nonce, []byte("hello"), ad)
	keep := bytes.Clone(sealed)
	for i := range sealed {
		for bit := range 8 {
			sealed[i] ^= 1 << bit
			if b, e := Open(key, nonce, sealed, ad); e != api.ErrSeal || len(b) != 0 {
				t.Errorf("bit %d of byte %d: %d", bit, i, e)
			}
			sealed[i] ^= 1 << bit
		}
	}
	if !bytes.Equal(sealed, keep) {
		t.Fatal("an argument was changed")
	}
	for _, e := range []api.Errno{
		second(Open(api.Hash{2}, nonce, sealed, ad)),
		second(Open(key, Nonce(2, 4), sealed, ad)),
		second(Open(key, nonce, sealed, []byte("ae"))),
		second(Open(key, nonce, sealed, nil)),
		second(Open(key, nonce, sealed, append(ad, 0))),
		second(Open(key, nonce, sealed[1:], ad)),
		second(Open(key, nonce, append(bytes.Clone(sealed), 0), ad)),
		second(Open(key, nonce, make([]byte, 16), ad)),
	} {
		if e != api.ErrSeal {
			t.Error(e)
		}
	}
	for n := range 16 {
		if b, e := Open(key, nonce, sealed[:n], ad); e != api.ErrForm || len(b) != 0 {
			t.Errorf("%d bytes: %d", n, e)
		}
	}
}

func second(_ []byte, e api.Errno) api.Errno { return e }

func TestNothingIsSealedAndOpened(t *testing.T) {
	sealed := Seal(api.Hash{}, [12]byte{}, nil, nil)
	if b, e := Open(api.Hash{}, [12]byte{}, sealed, []byte{}); len(sealed) != 16 || e != api.OK || len(b) != 0 {
		t.Error(sealed, b, e)
	}
}

func TestNonce(t *testing.T) {
	cases := []struct {
		writer int
		seq    uint64
		want   [12]byte
	}{
		{0, 0, [12]byte{}},
		{1, 2, [12]byte{3: 1, 11: 2}},
		{0x01020304, 0x05060708090a0b0c, [12]byte{1, 2, 3, 4, 5, 6, 7, 8, 9, 10, 11, 12}},
		{1<<32 + 5, 1 << 63, [12]byte{3: 5, 4: 128}},
		{-1, 1<<64 - 1, [12]byte{255, 255, 255, 255, 255, 255, 255, 255, 255, 255, 255, 255}},
		{-256, 0, [12]byte{255, 255, 255, 0}},
	}
	for _, c := range cases {
		if got := Nonce(c.writer, c.seq); got != c.want {
			t.Errorf("%d, %d: %v", c.writer, c.seq, got)
		}
	}
}

func TestFaultsAreWrapped(t *testing.T) {
	_, err := open(api.Hash{}, [12]byte{}, make([]byte, 15), nil)
	var f *fault
	if !errors.As(err, &f) || f.number != api.ErrForm || !errors.Is(err, errShort) {
		t.Error(err)
	}
	_, err = open(api.Hash{}, [12]byte{}, make([]byte, 16), nil)
	if !errors.As(err, &f) || f.number != api.ErrSeal || !errors.Is(err, errOther) || err.Error() == "" {
		t.Error(err)
	}
}
