package hash

import (
	"bytes"
	"crypto/hkdf"
	"crypto/hmac"
	"crypto/sha256"
	"encoding/hex"
	"testing"

	"jalousie/api"
)

func fromHex(t *testing.T, s string) []byte {
	t.Helper()
	b, err := hex.DecodeString(s)
	if err != nil {
		t.Fatal(err)
	}
	return b
}

// some is n bytes that differ from place to place.
func some(n, seed int) []byte {
	b := make([]byte, n)
	for i := range b {
		b[i] = byte(i*7 + i/251 + seed)
	}
	return b
}

func TestSumIsSHA256AtAllLengths(t *testing.T) {
	for n := range 300 {
		b := some(n, n)
		if got, want := Sum(b), api.Hash(sha256.Sum256(b)); got != want {
			t.Fatalf("%d bytes: %x, want %x", n, got, want)
		}
	}
	long := some(1<<20+17, 3)
	if got, want := Sum(long), api.Hash(sha256.Sum256(long)); got != want {
		t.Errorf("long: %x, want %x", got, want)
	}
}

func TestSumJoinsItsParts(t *testing.T) {
	b := some(200, 9)
	want := Sum(b)
	for i := 0; i <= len(b); i += 3 {
		for j := i; j <= len(b); j += 5 {
			if got := Sum(b[:i], nil, b[i:j], []byte{}, b[j:]); got != want {
				t.Fatalf("cut at %d, %d: %x", i, j, got)
			}
		}
	}
	if Sum() != Sum(nil) || Sum() != Sum(nil, []byte{}) {
		t.Error("no parts, and empty ones, differ")
	}
	if h := Sum([]byte("abc")); h[0] != 186 || h[31] != 173 {
		t.Error(h)
	}
}

func TestMacIsHMAC(t *testing.T) {
	for _, n := range []int{0, 1, 31, 32, 63, 64, 65, 127, 128, 129, 1000} {
		for _, m := range []int{0, 1, 55, 56, 63, 64, 65, 500} {
			key, text := some(n, 1), some(m, 2)
			h := hmac.New(sha256.New, key)
			h.Write(text)
			if got := Mac(key, text); !bytes.Equal(got[:], h.Sum(nil)) {
				t.Fatalf("key of %d, text of %d: %x", n, m, got)
			}
			if Mac(key, text) != Mac(key, text[:m/2], nil, text[m/2:]) {
				t.Fatalf("key of %d, text of %d: parts aren't joined", n, m)
			}
		}
	}
	if Mac(nil) != Mac([]byte{}, nil) {
		t.Error("an empty key, and none, differ")
	}
}

func TestExtractAndExpandAreHKDF(t *testing.T) {
	for _, n := range []int{0, 1, 31, 32, 33, 42, 255, 256, 8159, 8160} {
		secret, salt, info := some(22, n), some(n%100, 3), some(n%70, 4)
		key := Extract(salt, secret)
		want, err := hkdf.Extract(sha256.New, secret, salt)
		if err != nil || !bytes.Equal(key[:], want) {
			t.Fatalf("extract %d: %x", n, key)
		}
		long, err := hkdf.Expand(sha256.New, want, string(info), n)
		got, e := Expand(key, info, n)
		if err != nil || e != api.OK || !bytes.Equal(got, long) {
			t.Fatalf("expand %d: %d, %v", n, e, err)
		}
	}
}

func TestExpandOfRFC5869(t *testing.T) {
	key := api.Hash(fromHex(t, "077709362c2e32df0ddc3f0dc47bba6390b6c73bb50f9c3122ec844ad7c2b3e5"))
	want := fromHex(t, "3cb25f25faacd57a90434f64d0362f2a2d2d0a90cf1a5a4c5db02d56ecc4c5bf34007208d5b887185865")
	got, e := Expand(key, fromHex(t, "f0f1f2f3f4f5f6f7f8f9"), 42)
	if e != api.OK || !bytes.Equal(got, want) {
		t.Errorf("%x, %d", got, e)
	}
}

func TestExpandRefusesLengths(t *testing.T) {
	for _, n := range []int{-1, -1 << 63, 8161, 1<<63 - 1} {
		if b, e := Expand(api.Hash{1}, []byte("x"), n); e != api.ErrArg || len(b) != 0 {
			t.Errorf("%d: %d bytes, %d", n, len(b), e)
		}
	}
}

func TestDeriveIsExpandsBeginning(t *testing.T) {
	key := Sum([]byte("key"))
	for _, label := range []string{"", "jalousie", string(some(100, 5))} {
		b, e := Expand(key, []byte(label), 64)
		if got := Derive(key, label); e != api.OK || !bytes.Equal(got[:], b[:32]) {
			t.Errorf("%q: %x", label, got)
		}
	}
	if Derive(key, "a") == Derive(key, "b") {
		t.Error("two labels, one key")
	}
}

func TestArgumentsAreLeftAndAnswersAreNew(t *testing.T) {
	room := some(100, 1)
	want := bytes.Clone(room)
	Sum(room[:10], room[20:30])
	Mac(room[:10], room[5:30])
	Extract(room[:70], room[5:30])
	a, _ := Expand(api.Hash{}, room[:10], 64)
	if !bytes.Equal(room, want) {
		t.Error("an argument was changed")
	}
	b, _ := Expand(api.Hash{}, room[:10], 64)
	clear(a)
	if c, _ := Expand(api.Hash{}, room[:10], 64); !bytes.Equal(b, c) {
		t.Error("answers hang on one another")
	}
}
