package box

import (
	"bytes"
	"testing"

	"jalousie/api"
	"jalousie/hash"
	"jalousie/seal"
)

var both = []bool{false, true}

// drawOf is the n-th draw of a seed, by the chapter's words.
func drawOf(t *testing.T, seed api.Hash, n byte, size int) []byte {
	t.Helper()
	b, e := hash.Expand(hash.Derive(seed, "jalousie draw"), []byte{0, 0, 0, 0, 0, 0, 0, n}, size)
	if e != api.OK {
		t.Fatal(e)
	}
	return b
}

func TestWhatIsSealedIsOpened(t *testing.T) {
	for _, ideal := range both {
		b := New(ideal, api.Hash{1})
		if b.Ideal() != ideal || b.Draws() != 0 {
			t.Error(ideal, b.Draws())
		}
		key, nonce := api.Hash{2}, seal.Nonce(3, 4)
		for n := range 100 {
			text := bytes.Repeat([]byte{byte(n)}, n)
			keep := bytes.Clone(text)
			sealed := b.Seal(key, nonce, text)
			if len(sealed) != n+16 {
				t.Fatal(ideal, n, len(sealed))
			}
			clear(text)
			got, e := b.Open(key, nonce, sealed)
			if e != api.OK || !bytes.Equal(got, keep) {
				t.Fatal(ideal, n, got, e)
			}
			clear(got)
			if got, _ := b.Open(key, nonce, sealed); !bytes.Equal(got, keep) {
				t.Fatal(ideal, n, "the box hands itself out")
			}
		}
	}
}

func TestOpenRefuses(t *testing.T) {
	for _, ideal := range both {
		b := New(ideal, api.Hash{1})
		key, nonce := api.Hash{2}, seal.Nonce(3, 4)
		sealed := b.Seal(key, nonce, []byte("hello"))
		other := bytes.Clone(sealed)
		other[3] ^= 1
		cases := []struct {
			key    api.Hash
			nonce  [12]byte
			sealed []byte
			want   api.Errno
		}{
			{key, nonce, sealed[:15], api.ErrForm}, {key, nonce, nil, api.ErrForm},
			{api.Hash{3}, nonce, sealed, api.ErrSeal}, {key, seal.Nonce(3, 5), sealed, api.ErrSeal},
			{key, nonce, other, api.ErrSeal}, {key, nonce, sealed[:20], api.ErrSeal},
			{key, nonce, append(bytes.Clone(sealed), 0), api.ErrSeal}, {key, nonce, make([]byte, 16), api.ErrSeal},
		}
		for i, c := range cases {
			if text, e := b.Open(c.key, c.nonce, c.sealed); e != c.want || len(text) != 0 {
				t.Error(ideal, i, e)
			}
		}
	}
}

func TestRealBoxesHaveNoMemory(t *testing.T) {
	a, b := New(false, api.Hash{1}), New(false, api.Hash{2})
	key, nonce, text := api.Hash{2}, seal.Nonce(3, 4), []byte("hello")
	sealed := a.Seal(key, nonce, text)
	if !bytes.Equal(sealed, seal.Seal(key, nonce, text, nil)) {
		t.Error("layer 4's")
	}
	if got, e := b.Open(key, nonce, sealed); e != api.OK || !bytes.Equal(got, text) {
		t.Error(e)
	}
	code := hash.Mac(key[:], text)
	if a.Code(key, text) != code || !b.Right(key, text, code) || b.Right(key, text, api.Hash{}) || b.Right(key, nil, code) || b.Right(api.Hash{}, text, code) {
		t.Error("codes")
	}
	if token := a.Blind(key, text); token != api.Token(code[:16]) || token != b.Blind(key, text) {
		t.Error("tokens")
	}
	if a.Draws() != 0 || b.Draws() != 0 {
		t.Error("a real box draws")
	}
}

func TestIdealBoxesDraw(t *testing.T) {
	seed := api.Hash{9}
	b := New(true, seed)
	key, text := api.Hash{2}, []byte("hello")
	first := b.Seal(key, seal.Nonce(1, 1), text)
	if !bytes.Equal(first, drawOf(t, seed, 0, 21)) || b.Draws() != 1 {
		t.Error("seal", b.Draws())
	}
	code := b.Code(key, text)
	if !bytes.Equal(code[:], drawOf(t, seed, 1, 32)) || b.Draws() != 2 {
		t.Error("code", b.Draws())
	}
	token := b.Blind(key, text)
	if !bytes.Equal(token[:], drawOf(t, seed, 2, 16)) || b.Draws() != 3 {
		t.Error("blind", b.Draws())
	}
	if b.Code(key, text) != code || b.Blind(key, text) != token || b.Draws() != 3 {
		t.Error("what was drawn isn't told again", b.Draws())
	}
	if again := b.Seal(key, seal.Nonce(1, 1), text); bytes.Equal(again, first) || b.Draws() != 4 {
		t.Error("each Seal draws", b.Draws())
	}
	if b.Blind(api.Hash{3}, text) == token || b.Blind(key, []byte("hellp")) == token || b.Code(api.Hash{3}, text) == code || b.Draws() != 7 {
		t.Error("another key, or name, is the same", b.Draws())
	}
}

func TestRightOfAnIdealBoxDrawsNothing(t *testing.T) {
	b := New(true, api.Hash{9})
	key, text := api.Hash{2}, []byte("hello")
	would := api.Hash(drawOf(t, api.Hash{9}, 0, 32))
	if b.Right(key, text, would) || b.Right(key, text, api.Hash{}) || b.Draws() != 0 {
		t.Error("what wasn't coded is right", b.Draws())
	}
	code := b.Code(key, text)
	if code != would || !b.Right(key, text, code) {
		t.Error("what was coded isn't right")
	}
	if b.Right(key, text, api.Hash{}) || b.Right(api.Hash{}, text, code) || b.Right(key, []byte("x"), code) || b.Draws() != 1 {
		t.Error("what is other is right", b.Draws())
	}
	if New(true, api.Hash{9}).Right(key, text, code) {
		t.Error("two boxes share a table")
	}
}

func TestNothingIsSealedInAnIdealBox(t *testing.T) {
	b := New(true, api.Hash{9})
	b.Blind(api.Hash{1}, nil)
	sealed := b.Seal(api.Hash{}, [12]byte{}, nil)
	if text, e := b.Open(api.Hash{}, [12]byte{}, sealed); e != api.OK || len(text) != 0 || len(sealed) != 16 {
		t.Error(e)
	}
	token := b.Blind(api.Hash{1}, nil)
	if _, e := b.Open(api.Hash{}, [12]byte{}, token[:]); e != api.ErrSeal {
		t.Error("a token is opened", e)
	}
}
