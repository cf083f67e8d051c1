package proof

import (
	"bytes"
	"slices"
	"testing"

	"jalousie/api"
	"jalousie/box"
	"jalousie/entry"
	"jalousie/keys"
)

func boxes() []*box.Box {
	return []*box.Box{box.New(false, api.Hash{}), box.New(true, api.Hash{7})}
}

func ring() Ring {
	return Ring{Group: api.Hash{1}, Epochs: []api.Hash{{2}, {3}}}
}

// made is a header of an item, right for the ring.
func made(t *testing.T, x *box.Box, writer int, seq uint64, f func(h *entry.Header)) entry.Header {
	t.Helper()
	h := entry.Header{Writer: writer, Seq: seq, Epoch: 1, Time: 3, Item: api.Token{4}, Tokens: []api.Token{{5}, {6}}}
	h.Knows[writer-1] = seq - 1
	if seq > 1 {
		h.Prev = api.Hash{9}
	}
	if f != nil {
		f(&h)
	}
	s, ok := Keys(ring(), h)
	if !ok {
		s = keys.Of(api.Hash{99})
	}
	h, _, e := entry.Make(x, s, h, nil)
	if e != api.OK {
		t.Fatal(e)
	}
	return h
}

func control(h *entry.Header) { h.Control, h.Item, h.Tokens = true, api.Token{}, nil }

func TestKeys(t *testing.T) {
	r := ring()
	for _, c := range []struct {
		h    entry.Header
		want api.Hash
	}{{entry.Header{Epoch: 0}, api.Hash{2}}, {entry.Header{Epoch: 1}, api.Hash{3}}, {entry.Header{Control: true, Epoch: 50}, api.Hash{1}}} {
		if s, ok := Keys(r, c.h); !ok || s != keys.Of(c.want) {
			t.Error(c.h)
		}
	}
	for _, epoch := range []int{-1, 2, 255} {
		if s, ok := Keys(r, entry.Header{Epoch: epoch}); ok || s != (keys.Set{}) {
			t.Error(epoch)
		}
	}
}

func TestRight(t *testing.T) {
	for _, x := range boxes() {
		h := made(t, x, 1, 1, nil)
		if !Right(x, ring(), h) || !Right(x, ring(), made(t, x, 1, 1, control)) {
			t.Error("what is right isn't")
		}
		if Right(x, Ring{Group: api.Hash{1}, Epochs: []api.Hash{{2}}}, h) {
			t.Error("an epoch that isn't there")
		}
		if Right(x, Ring{Group: api.Hash{1}, Epochs: []api.Hash{{3}, {2}}}, h) {
			t.Error("another epoch's key")
		}
		h.Time++
		if Right(x, ring(), h) {
			t.Error("another time")
		}
		if Right(x, ring(), made(t, x, 1, 1, func(h *entry.Header) { h.Epoch = 7 })) || Right(x, ring(), entry.Header{Epoch: -9}) {
			t.Error("no keys")
		}
	}
}

// proofs are some of each kind.
func proofs(t *testing.T, x *box.Box) []Proof {
	a, b := made(t, x, 2, 3, nil), made(t, x, 2, 3, func(h *entry.Header) { h.Time = 4 })
	next := made(t, x, 2, 4, nil)
	return []Proof{
		{Kind: 1, A: a, B: b},
		{Kind: 1, A: a, B: made(t, x, 2, 3, control)},
		{Kind: 2, A: a, B: next},
		{Kind: 3, Writer: 1, Floor: 5, Head: 3},
		{Kind: 3, Writer: 6, Floor: api.MaxSeq, Head: 0},
		{Kind: 4, A: a, Wanted: []api.Token{{5}}},
		{Kind: 4, A: a, Wanted: []api.Token{{1}, {6}, {7}}},
		{Kind: 4, A: a, Wanted: []api.Token{{1}, {2}, {3}, {4}, {5}, {6}, {7}, {8}}},
		{Kind: 4, A: a},
		{Kind: 4, A: made(t, x, 1, 1, func(h *entry.Header) { h.Tokens = nil })},
	}
}

func TestWhatIsAProofIsCheckedPackedAndParsed(t *testing.T) {
	for _, x := range boxes() {
		for i, p := range proofs(t, x) {
			if !Check(x, ring(), p) {
				t.Error(i, "isn't a proof")
			}
			b, e := Bytes(p)
			if e != api.OK {
				t.Fatal(i, e)
			}
			got, e := Parse(b)
			if e != api.OK || !same(got, p) || !Check(x, ring(), got) {
				t.Error(i, e)
			}
			for n := range b {
				if q, e := Parse(b[:n]); e != api.ErrForm || !same(q, Proof{}) {
					t.Error(i, n, e)
				}
			}
			if _, e := Parse(append(b, 0)); e != api.ErrForm {
				t.Error(i, "one byte more", e)
			}
		}
	}
}

func same(a, b Proof) bool {
	return a.Kind == b.Kind && entry.Same(a.A, b.A) && entry.Same(a.B, b.B) && a.Writer == b.Writer &&
		a.Floor == b.Floor && a.Head == b.Head && slices.Equal(a.Wanted, b.Wanted)
}

// What is beyond the bounds is neither a proof, nor packed.
func TestWhatIsOutOfBounds(t *testing.T) {
	x := boxes()[0]
	a, b, next := made(t, x, 2, 3, nil), made(t, x, 2, 3, func(h *entry.Header) { h.Time = 4 }), made(t, x, 2, 4, nil)
	var many []api.Token
	for i := range 9 {
		many = append(many, api.Token{byte(i)})
	}
	for i, p := range []Proof{
		{}, {Kind: -1}, {Kind: 5, A: a, B: b}, {Kind: 0, Writer: 1, Floor: 5, Head: 3},
		{Kind: 1, A: a, B: b, Writer: 2}, {Kind: 1, A: a, B: b, Floor: 1}, {Kind: 1, A: a, B: b, Head: 1}, {Kind: 1, A: a, B: b, Wanted: []api.Token{{5}}},
		{Kind: 1, A: a}, {Kind: 1, B: a}, {Kind: 2, A: a}, {Kind: 2, A: a, B: next, Writer: 1},
		{Kind: 3, Writer: 0, Floor: 5, Head: 3}, {Kind: 3, Writer: 7, Floor: 5, Head: 3}, {Kind: 3, Writer: -1, Floor: 5, Head: 3},
		{Kind: 3, Writer: 1, Floor: 5, Head: 5}, {Kind: 3, Writer: 1, Floor: 5, Head: 6}, {Kind: 3, Writer: 1},
		{Kind: 3, Writer: 1, Floor: api.MaxSeq + 1, Head: 3}, {Kind: 3, Writer: 1, Floor: 5, Head: 3, A: a},
		{Kind: 3, Writer: 1, Floor: 5, Head: 3, B: entry.Header{Size: 1}}, {Kind: 3, Writer: 1, Floor: 5, Head: 3, Wanted: []api.Token{{}}},
		{Kind: 4, A: a, B: b}, {Kind: 4, A: a, Writer: 1}, {Kind: 4, A: a, Wanted: many}, {Kind: 4, A: a, Wanted: []api.Token{{6}, {5}}},
		{Kind: 4, A: a, Wanted: []api.Token{{5}, {5}}}, {Kind: 4}, {Kind: 4, A: a, Head: 1}, {Kind: 4, A: a, Floor: 1},
	} {
		if Check(x, ring(), p) {
			t.Error(i, "is a proof")
		}
		if b, e := Bytes(p); e != api.ErrArg || len(b) != 0 {
			t.Error(i, "has bytes", e)
		}
	}
}

// What is within the bounds, but shows nothing, has bytes, and is no proof.
func TestWhatShowsNothing(t *testing.T) {
	for _, x := range boxes() {
		a, b := made(t, x, 2, 3, nil), made(t, x, 2, 3, func(h *entry.Header) { h.Time = 4 })
		wrong := b
		wrong.Code[0]++
		linked := made(t, x, 2, 4, func(h *entry.Header) { h.Prev = entry.Hash(a) })
		wrongNext := made(t, x, 2, 4, nil)
		wrongNext.Code[0]++
		for i, p := range []Proof{
			{Kind: 1, A: a, B: a}, {Kind: 1, A: a, B: wrong}, {Kind: 1, A: wrong, B: a},
			{Kind: 1, A: a, B: made(t, x, 3, 3, nil)}, {Kind: 1, A: a, B: made(t, x, 2, 4, nil)},
			{Kind: 1, A: a, B: made(t, x, 2, 3, func(h *entry.Header) { h.Epoch = 2 })},
			{Kind: 2, A: a, B: linked}, {Kind: 2, A: a, B: wrongNext}, {Kind: 2, A: wrong, B: made(t, x, 2, 4, nil)},
			{Kind: 2, A: a, B: made(t, x, 2, 5, nil)}, {Kind: 2, A: a, B: b}, {Kind: 2, A: a, B: made(t, x, 3, 4, nil)},
			{Kind: 4, A: wrong}, {Kind: 4, A: a, Wanted: []api.Token{{4}}}, {Kind: 4, A: made(t, x, 2, 3, control)},
			{Kind: 4, A: made(t, x, 2, 3, func(h *entry.Header) { h.Tokens = nil }), Wanted: []api.Token{{5}}},
		} {
			if Check(x, ring(), p) {
				t.Error(i, "is a proof")
			}
			b, e := Bytes(p)
			if e != api.OK {
				t.Error(i, e)
			}
			if got, e := Parse(b); e != api.OK || !same(got, p) {
				t.Error(i, e)
			}
		}
	}
}

func TestHowProofsArePacked(t *testing.T) {
	if b, e := Bytes(Proof{Kind: 3, Writer: 1, Floor: 5, Head: 3}); e != api.OK || !bytes.Equal(b, []byte{3, 1, 5, 3}) {
		t.Error(b, e)
	}
	x := boxes()[0]
	a := made(t, x, 2, 3, nil)
	raw := entry.Bytes(a)
	n := []byte{byte(len(raw)) | 128, byte(len(raw) >> 7)}
	want := slices.Concat([]byte{4}, n, raw, []byte{1}, make([]byte, 15), []byte{7})
	if b, e := Bytes(Proof{Kind: 4, A: a, Wanted: []api.Token{{15: 7}}}); e != api.OK || !bytes.Equal(b, want) {
		t.Error(b, e)
	}
	want = slices.Concat([]byte{1}, n, raw, n, raw)
	if b, e := Bytes(Proof{Kind: 1, A: a, B: a}); e != api.OK || !bytes.Equal(b, want) {
		t.Error(b, e)
	}
	bad := bytes.Clone(raw)
	bad[0] = 9
	for i, b := range [][]byte{
		slices.Concat([]byte{1}, n, bad, n, raw), slices.Concat([]byte{1}, n, raw, n, bad), slices.Concat([]byte{2}, n, bad, n, bad),
		slices.Concat([]byte{4}, n, bad, []byte{0}), {1, 0, 0}, {4, 0, 0},
	} {
		if p, e := Parse(b); e != api.ErrForm || !same(p, Proof{}) {
			t.Error(i, "a header that is none", e)
		}
	}
	for _, b := range [][]byte{nil, {0}, {5}, {3, 1, 3, 3}, {3, 0, 5, 3}, {3, 7, 5, 3}, {3, 1, 5}, {131, 0, 1, 5, 3}, {3, 1, 129, 128, 64, 3}} {
		if p, e := Parse(b); e != api.ErrForm || !same(p, Proof{}) {
			t.Error(b, e)
		}
	}
}

func TestNothingIsShared(t *testing.T) {
	x := boxes()[0]
	p := Proof{Kind: 4, A: made(t, x, 2, 3, nil), Wanted: []api.Token{{5}}}
	b, _ := Bytes(p)
	q, _ := Parse(b)
	clear(b)
	p.Wanted[0], p.A.Tokens[0] = api.Token{1}, api.Token{1}
	if q.Wanted[0] != (api.Token{5}) || q.A.Tokens[0] != (api.Token{5}) {
		t.Error("memory is shared")
	}
}
