package keys

import (
	"bytes"
	"slices"
	"testing"

	"jalousie/api"
	"jalousie/box"
	"jalousie/hash"
	"jalousie/seal"
)

func boxes() []*box.Box {
	return []*box.Box{box.New(false, api.Hash{}), box.New(true, api.Hash{7})}
}

func TestOf(t *testing.T) {
	key := api.Hash{1, 2, 3}
	want := Set{
		Body: hash.Derive(key, "jalousie body"), Code: hash.Derive(key, "jalousie code"),
		Tag: hash.Derive(key, "jalousie tag"), Item: hash.Derive(key, "jalousie item"),
	}
	if got := Of(key); got != want || got == Of(api.Hash{}) {
		t.Error(got)
	}
}

func TestPair(t *testing.T) {
	secret := api.Hash{5}
	if Pair(secret, 1, 2) != Pair(secret, 2, 1) || Pair(secret, 1, 2) != hash.Mac(secret[:], []byte{1, 2}) {
		t.Error("1, 2")
	}
	if Pair(secret, 3, 3) != hash.Mac(secret[:], []byte{3}, []byte{3}) || Pair(secret, 1, 2) == Pair(api.Hash{}, 1, 2) || Pair(secret, 1, 2) == Pair(secret, 1, 3) {
		t.Error("others")
	}
	if Pair(secret, 257, 2) != hash.Mac(secret[:], []byte{2, 1}) || Pair(secret, -1, 0) != hash.Mac(secret[:], []byte{255, 0}) {
		t.Error("the lowest bytes, the lesser number first")
	}
}

func TestTokens(t *testing.T) {
	for _, x := range boxes() {
		s := Of(api.Hash{1})
		tags := []string{"b", "a", "c", "a", ""}
		got := Tokens(x, s, tags)
		var want []api.Token
		for _, tag := range []string{"", "a", "b", "c"} {
			want = append(want, Token(x, s, tag))
		}
		slices.SortFunc(want, func(a, b api.Token) int { return bytes.Compare(a[:], b[:]) })
		if !slices.Equal(got, want) || !Sorted(got) || tags[0] != "b" {
			t.Error(got, want)
		}
		if len(Tokens(x, s, nil)) != 0 {
			t.Error("tokens of no tags")
		}
		if Token(x, s, "a") != x.Blind(s.Tag, []byte("a")) || Item(x, s, "a") != x.Blind(s.Item, []byte("a")) || Item(x, s, "a") == Token(x, s, "a") {
			t.Error("blinded by another key")
		}
	}
}

func TestTokensAreBlindedInTheTagsOrder(t *testing.T) {
	a, b, s := box.New(true, api.Hash{1}), box.New(true, api.Hash{1}), Of(api.Hash{1})
	Tokens(a, s, []string{"z", "a", "z", "m"})
	for _, tag := range []string{"z", "a", "m"} {
		Token(b, s, tag)
	}
	for _, tag := range []string{"a", "m", "z"} {
		if Token(a, s, tag) != Token(b, s, tag) {
			t.Error(tag)
		}
	}
}

func TestSlots(t *testing.T) {
	for _, x := range boxes() {
		pair, key := api.Hash{3}, api.Hash{4}
		slot := Slot(x, pair, 2, 7, key)
		if len(slot) != 48 {
			t.Error(len(slot))
		}
		if got, e := Unslot(x, pair, 2, 7, slot); e != api.OK || got != key {
			t.Error(got, e)
		}
		for _, e := range []api.Errno{
			second(Unslot(x, pair, 3, 7, slot)), second(Unslot(x, pair, 2, 8, slot)),
			second(Unslot(x, api.Hash{}, 2, 7, slot)), second(Unslot(x, pair, 2, 7, slot[:47])),
			second(Unslot(x, pair, 2, 7, append(slot, 0))),
		} {
			if e != api.ErrSeal {
				t.Error(e)
			}
		}
		if got, e := Unslot(x, pair, 2, 7, slot[:15]); e != api.ErrForm || got != (api.Hash{}) {
			t.Error(e)
		}
		for _, n := range []int{0, 31, 33} {
			short := x.Seal(pair, seal.Nonce(2, 7), make([]byte, n))
			if got, e := Unslot(x, pair, 2, 7, short); e != api.ErrForm || got != (api.Hash{}) {
				t.Error(n, e)
			}
		}
		if got, e := Unslot(x, pair, -1, -1, Slot(x, pair, -1, -1, key)); e != api.OK || got != key {
			t.Error(e)
		}
	}
}

func TestASlotIsSealedWithItsNonce(t *testing.T) {
	key := api.Hash{4}
	if !bytes.Equal(Slot(boxes()[0], api.Hash{3}, 2, 7, key), seal.Seal(api.Hash{3}, seal.Nonce(2, 7), key[:], nil)) {
		t.Error("another nonce, or key")
	}
}

func second(_ api.Hash, e api.Errno) api.Errno { return e }

func TestSortedAndMeet(t *testing.T) {
	a, b, c := api.Token{1}, api.Token{1, 0, 1}, api.Token{200}
	for _, l := range [][]api.Token{nil, {}, {c}, {a, b}, {a, b, c}, {a, c}} {
		if !Sorted(l) {
			t.Error(l)
		}
	}
	for _, l := range [][]api.Token{{a, a}, {b, a}, {a, c, b}, {a, b, b}, {c, a}} {
		if Sorted(l) {
			t.Error(l)
		}
	}
	for _, l := range [][2][]api.Token{{{a}, {a}}, {{a, b}, {c, b}}, {{c}, {a, b, c}}, {{c, a}, {b, a}}} {
		if !Meet(l[0], l[1]) || !Meet(l[1], l[0]) {
			t.Error(l)
		}
	}
	for _, l := range [][2][]api.Token{{nil, nil}, {nil, {a}}, {{a}, {b}}, {{a, c}, {b}}} {
		if Meet(l[0], l[1]) || Meet(l[1], l[0]) {
			t.Error(l)
		}
	}
	unsorted := []api.Token{c, a}
	Meet([]api.Token{b}, unsorted)
	if unsorted[0] != c {
		t.Error("an argument was turned round")
	}
}
