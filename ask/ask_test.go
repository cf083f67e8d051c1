package ask

import (
	"bytes"
	"math"
	"slices"
	"testing"

	"jalousie/api"
	"jalousie/disk"
	"jalousie/entry"
	"jalousie/filter"
	"jalousie/hash"
	"jalousie/index"
	"jalousie/relay"
	"jalousie/vector"
)

// piece is a whole piece of so many bytes of a body, behind another one's header, with some tokens.
func piece(writer int, ahead entry.Header, size int, tokens ...api.Token) index.Piece {
	body := bytes.Repeat([]byte{byte(writer)}, size)
	h := entry.Header{Writer: writer, Seq: ahead.Seq + 1, Item: api.Token{1}, Tokens: tokens, Sum: hash.Sum(body), Size: size}
	h.Knows[writer-1] = ahead.Seq
	if ahead.Seq > 0 {
		h.Prev = entry.Hash(ahead)
	}
	return index.Piece{Header: h, Body: body}
}

func one() index.Piece { return piece(1, entry.Header{}, 80, api.Token{5}) }

func samePiece(a, b index.Piece) bool {
	return entry.Same(a.Header, b.Header) && bytes.Equal(a.Body, b.Body)
}

func same(a, b Request) bool {
	return a.ID == b.ID && a.Kind == b.Kind && samePiece(a.Piece, b.Piece) && a.Cursor == b.Cursor && a.Wish.All == b.Wish.All &&
		slices.Equal(a.Wish.Tokens, b.Wish.Tokens) && a.Most == b.Most && a.Writer == b.Writer && a.Seq == b.Seq
}

func sameReply(a, b Reply) bool {
	return a.ID == b.ID && a.Kind == b.Kind && a.Err == b.Err && a.Heads == b.Heads && slices.EqualFunc(a.Pieces, b.Pieces, samePiece)
}

func manyTokens(n int) []api.Token {
	var l []api.Token
	for i := range n {
		l = append(l, api.Token{byte(i + 1)})
	}
	return l
}

func TestRequests(t *testing.T) {
	full := vector.Vector{api.MaxSeq, 1, 2, 3, 4, api.MaxSeq}
	for i, q := range []Request{
		{ID: 1, Kind: 1, Piece: one()}, {Kind: 1, Piece: piece(6, entry.Header{}, 2064)}, {ID: math.MaxUint64, Kind: 1, Piece: one()},
		{ID: 5, Kind: 2, Most: 1}, {ID: 5, Kind: 2, Most: 8, Cursor: full, Wish: filter.Wish{All: true}},
		{Kind: 2, Most: 8, Wish: filter.Wish{Tokens: manyTokens(8)}}, {Kind: 3, Writer: 1, Seq: 1}, {Kind: 3, Writer: 6, Seq: api.MaxSeq},
	} {
		b, e := Bytes(q)
		if !Formed(q) || e != api.OK {
			t.Fatal(i, e)
		}
		got, e := Parse(b)
		if e != api.OK || !same(got, q) {
			t.Error(i, e)
		}
		for n := range b {
			if r, e := Parse(b[:n]); e != api.ErrForm || !same(r, Request{}) {
				t.Error(i, n, e)
			}
		}
		if _, e := Parse(append(b, 0)); e != api.ErrForm {
			t.Error(i, "one byte more", e)
		}
	}
}

func TestRequestsThatAreNone(t *testing.T) {
	stub, torn, unformed, other := one(), one(), one(), one()
	stub.Body = nil
	torn.Body = torn.Body[:79]
	unformed.Header.Size, unformed.Body = 5, make([]byte, 5)
	other.Body = make([]byte, 80)
	if !Formed(Request{Kind: 1, Piece: other}) {
		t.Error("a body of the header's Size is enough")
	}
	wish := filter.Wish{All: true}
	for i, q := range []Request{
		{}, {Kind: 4}, {Kind: -1}, {Kind: 1}, {Kind: 1, Piece: stub}, {Kind: 1, Piece: torn}, {Kind: 1, Piece: unformed},
		{Kind: 1, Piece: one(), Cursor: vector.Vector{1}}, {Kind: 1, Piece: one(), Wish: wish}, {Kind: 1, Piece: one(), Most: 1},
		{Kind: 1, Piece: one(), Writer: 1}, {Kind: 1, Piece: one(), Seq: 1}, {Kind: 1, Piece: one(), Wish: filter.Wish{Tokens: manyTokens(1)}},
		{Kind: 2}, {Kind: 2, Most: -1}, {Kind: 2, Most: 9}, {Kind: 2, Most: 1, Cursor: vector.Vector{5: api.MaxSeq + 1}},
		{Kind: 2, Most: 1, Wish: filter.Wish{All: true, Tokens: manyTokens(1)}}, {Kind: 2, Most: 1, Wish: filter.Wish{Tokens: manyTokens(9)}},
		{Kind: 2, Most: 1, Piece: one()}, {Kind: 2, Most: 1, Piece: index.Piece{Body: []byte{1}}}, {Kind: 2, Most: 1, Writer: 1}, {Kind: 2, Most: 1, Seq: 1},
		{Kind: 3}, {Kind: 3, Writer: 1}, {Kind: 3, Seq: 1}, {Kind: 3, Writer: 7, Seq: 1}, {Kind: 3, Writer: -1, Seq: 1}, {Kind: 3, Writer: 1, Seq: api.MaxSeq + 1},
		{Kind: 3, Writer: 1, Seq: 1, Most: 1}, {Kind: 3, Writer: 1, Seq: 1, Wish: wish}, {Kind: 3, Writer: 1, Seq: 1, Cursor: vector.Vector{1}}, {Kind: 3, Writer: 1, Seq: 1, Piece: one()},
	} {
		if Formed(q) {
			t.Error(i)
		}
		if b, e := Bytes(q); e != api.ErrArg || len(b) != 0 {
			t.Error(i, e)
		}
	}
}

func TestHowRequestsArePacked(t *testing.T) {
	b, _ := Bytes(Request{ID: 300, Kind: 2, Cursor: vector.Vector{1, 2, 3, 4, 5, 6}, Wish: filter.Wish{Tokens: []api.Token{{15: 9}}}, Most: 8})
	want := slices.Concat([]byte{172, 2, 2, 1, 2, 3, 4, 5, 6, 0, 1}, make([]byte, 15), []byte{9, 8})
	if !bytes.Equal(b, want) {
		t.Error(b)
	}
	if b, _ := Bytes(Request{ID: 1, Kind: 2, Wish: filter.Wish{All: true}, Most: 1}); !bytes.Equal(b, []byte{1, 2, 0, 0, 0, 0, 0, 0, 1, 0, 1}) {
		t.Error(b)
	}
	if b, _ := Bytes(Request{ID: 7, Kind: 3, Writer: 2, Seq: 300}); !bytes.Equal(b, []byte{7, 3, 2, 172, 2}) {
		t.Error(b)
	}
	p := one()
	raw := entry.Bytes(p.Header)
	want = slices.Concat([]byte{7, 1, byte(len(raw)) | 128, byte(len(raw) >> 7)}, raw, []byte{80}, p.Body)
	if b, _ := Bytes(Request{ID: 7, Kind: 1, Piece: p}); !bytes.Equal(b, want) {
		t.Error(b)
	}
	for _, b := range [][]byte{nil, {7}, {7, 0}, {7, 4, 1, 1}, {7, 3, 0, 1}, {7, 3, 1, 0}, {7, 3, 7, 1}, {7, 131, 0, 1, 1}, {1, 2, 0, 0, 0, 0, 0, 0, 2, 0, 1}, {1, 2, 0, 0, 0, 0, 0, 0, 1, 0, 9}} {
		if q, e := Parse(b); e != api.ErrForm || !same(q, Request{}) {
			t.Error(b, e)
		}
	}
}

// batch is n pieces of a writer, each with a body of so many bytes.
func batch(n, size int) []index.Piece {
	var l []index.Piece
	ahead := entry.Header{}
	for range n {
		p := piece(1, ahead, size)
		ahead = p.Header
		l = append(l, p)
	}
	return l
}

func TestReplies(t *testing.T) {
	stub := one()
	stub.Body = nil
	for i, r := range []Reply{
		{Kind: 1}, {ID: math.MaxUint64, Kind: 3, Err: 14, Heads: vector.Vector{api.MaxSeq, 5: 1}}, {Kind: 2, Pieces: []index.Piece{one(), stub, one()}},
		{Kind: 2, Pieces: batch(8, 80)}, {Kind: 2, Pieces: batch(6, 2064)}, {Kind: 1, Err: 3, Pieces: batch(1, 2064)},
	} {
		b, e := ReplyBytes(r)
		if !FormedReply(r) || e != api.OK || len(b)&(len(b)-1) != 0 {
			t.Fatal(i, e, len(b))
		}
		got, e := ParseReply(b)
		if e != api.OK || !sameReply(got, r) {
			t.Error(i, e)
		}
		for n := range b {
			if r, e := ParseReply(b[:n]); e != api.ErrForm || !sameReply(r, Reply{}) {
				t.Error(i, n, e)
			}
		}
		for _, more := range [][]byte{{0}, {1}, make([]byte, len(b))} {
			if _, e := ParseReply(append(bytes.Clone(b), more...)); e != api.ErrForm {
				t.Error(i, "more", e)
			}
		}
	}
}

func TestRepliesThatAreNone(t *testing.T) {
	unformed, torn, long := one(), one(), one()
	unformed.Header.Seq = 0
	torn.Body = torn.Body[:79]
	long.Body = append(long.Body, 0)
	for i, r := range []Reply{
		{}, {Kind: 4}, {Kind: -1}, {Kind: 1, Err: 15}, {Kind: 1, Err: -1}, {Kind: 1, Heads: vector.Vector{api.MaxSeq + 1}}, {Kind: 2, Pieces: batch(9, 80)},
		{Kind: 2, Pieces: []index.Piece{unformed}}, {Kind: 2, Pieces: []index.Piece{torn}}, {Kind: 2, Pieces: []index.Piece{one(), long}}, {Kind: 2, Pieces: []index.Piece{{}}},
		{Kind: 2, Pieces: batch(7, 2064)},
	} {
		if FormedReply(r) {
			t.Error(i)
		}
		if b, e := ReplyBytes(r); e != api.ErrArg || len(b) != 0 {
			t.Error(i, e)
		}
	}
}

// total is how many bytes of headers and bodies there are.
func total(l []index.Piece) int {
	n := 0
	for _, p := range l {
		n += len(entry.Bytes(p.Header)) + len(p.Body)
	}
	return n
}

// A reply whose headers and bodies have just as many bytes as may be, and one with one more.
func TestTheMostThatAReplyHas(t *testing.T) {
	l := batch(6, 2064)
	l = append(l, piece(1, l[5].Header, 1040))
	left := mostTold - total(l)
	l[0].Header.Tokens = manyTokens(min(left/16, 8))
	l[1].Header.Tokens = manyTokens(min(left/16-len(l[0].Header.Tokens), 8))
	// A greater number makes a header one byte longer.
	for i := range mostTold - total(l) {
		l[i/5].Header.Knows[i%5+1] = 128
	}
	r := Reply{Kind: 2, Pieces: l}
	if total(l) != mostTold || !FormedReply(r) || len(fitting(l)) != 7 {
		t.Fatal(total(l), len(fitting(l)))
	}
	b, e := ReplyBytes(r)
	if got, f := ParseReply(b); e != api.OK || f != api.OK || !sameReply(got, r) || len(b) != 16384 {
		t.Error(e, f, len(b))
	}
	l[6].Header.Time = 128
	if total(l) != mostTold+1 || FormedReply(r) || len(fitting(l)) != 6 {
		t.Error(total(l), len(fitting(l)))
	}
}

func TestHowRepliesArePacked(t *testing.T) {
	b, _ := ReplyBytes(Reply{ID: 5, Kind: 3, Err: 11, Heads: vector.Vector{1, 2, 3, 4, 5, 6}})
	if !bytes.Equal(b, []byte{5, 3, 11, 1, 2, 3, 4, 5, 6, 0, 1, 0, 0, 0, 0, 0}) {
		t.Error(b)
	}
	b, _ = ReplyBytes(Reply{ID: 1 << 40, Kind: 3, Err: 11, Heads: vector.Vector{1, 2, 3, 4, 5, 6}})
	if len(b) != 16 || b[15] != 1 {
		t.Error("the 1 fills a power of two", b)
	}
	b, _ = ReplyBytes(Reply{ID: 1 << 42, Kind: 3, Err: 11, Heads: vector.Vector{1, 2, 3, 4, 5, 6}})
	if r, e := ParseReply(b); len(b) != 32 || b[16] != 1 || e != api.OK || r.ID != 1<<42 {
		t.Error("and then the next one", b, e)
	}
	p := one()
	stub := index.Piece{Header: p.Header}
	raw := entry.Bytes(p.Header)
	n := []byte{byte(len(raw)) | 128, byte(len(raw) >> 7)}
	want := slices.Concat([]byte{5, 2, 0, 0, 0, 0, 0, 0, 0, 2}, n, raw, []byte{80}, p.Body, n, raw, []byte{0, 1})
	b, _ = ReplyBytes(Reply{ID: 5, Kind: 2, Pieces: []index.Piece{p, stub}})
	if len(b) != 512 || !bytes.Equal(b, append(want, make([]byte, 512-len(want))...)) {
		t.Error(len(b))
	}
	for _, b := range [][]byte{
		nil, make([]byte, 16), {5, 3, 11, 1, 2, 3, 4, 5, 6, 0, 2, 0, 0, 0, 0, 0}, {5, 3, 11, 1, 2, 3, 4, 5, 6, 0, 1, 0, 0, 0, 0}, {5, 3, 11, 1, 2, 3, 4, 5, 6, 0, 1},
		append([]byte{5, 3, 11, 1, 2, 3, 4, 5, 6, 0, 1}, make([]byte, 21)...), {5, 3, 15, 1, 2, 3, 4, 5, 6, 0, 1, 0, 0, 0, 0, 0},
		{5, 4, 11, 1, 2, 3, 4, 5, 6, 0, 1, 0, 0, 0, 0, 0}, {5, 0, 11, 1, 2, 3, 4, 5, 6, 0, 1, 0, 0, 0, 0, 0}, {5, 3, 11, 1, 2, 3, 4, 5, 6, 1, 1, 0, 0, 0, 0, 0}, {1},
	} {
		if r, e := ParseReply(b); e != api.ErrForm || !sameReply(r, Reply{}) {
			t.Error(b, e)
		}
	}
}

func newRelay(t *testing.T, sectors int) *relay.Relay {
	t.Helper()
	r, e := relay.Open(disk.New(sectors))
	if e != api.OK {
		t.Fatal(e)
	}
	return r
}

func TestDo(t *testing.T) {
	r := newRelay(t, 400)
	p := one()
	next := piece(1, p.Header, 80, api.Token{6})
	forked := p
	forked.Header.Code[0]++
	torn := next
	torn.Body = make([]byte, 80)
	for i, c := range []struct {
		q    Request
		want Reply
	}{
		{Request{ID: 1, Kind: 2, Most: 8}, Reply{ID: 1, Kind: 2}},
		{Request{ID: 2, Kind: 1, Piece: next}, Reply{ID: 2, Kind: 1, Err: api.ErrState}},
		{Request{ID: 3, Kind: 1, Piece: p}, Reply{ID: 3, Kind: 1, Heads: vector.Vector{1}}},
		{Request{ID: 4, Kind: 1, Piece: p}, Reply{ID: 4, Kind: 1, Heads: vector.Vector{1}}},
		{Request{ID: 5, Kind: 1, Piece: forked}, Reply{ID: 5, Kind: 1, Err: api.ErrFork, Heads: vector.Vector{1}}},
		{Request{ID: 6, Kind: 1, Piece: torn}, Reply{ID: 6, Kind: 1, Err: api.ErrForm, Heads: vector.Vector{1}}},
		{Request{ID: 7, Kind: 1, Piece: next}, Reply{ID: 7, Kind: 1, Heads: vector.Vector{2}}},
		{Request{ID: 8, Kind: 2, Most: 8, Wish: filter.Wish{Tokens: []api.Token{{6}}}}, Reply{ID: 8, Kind: 2, Heads: vector.Vector{2}, Pieces: []index.Piece{{Header: p.Header}, next}}},
		{Request{ID: 9, Kind: 2, Most: 1, Cursor: vector.Vector{1}}, Reply{ID: 9, Kind: 2, Heads: vector.Vector{2}, Pieces: []index.Piece{{Header: next.Header}}}},
		{Request{ID: 10, Kind: 3, Writer: 1, Seq: 2}, Reply{ID: 10, Kind: 3, Heads: vector.Vector{2}, Pieces: []index.Piece{next}}},
		{Request{ID: 11, Kind: 3, Writer: 1, Seq: 3}, Reply{ID: 11, Kind: 3, Err: api.ErrNone, Heads: vector.Vector{2}}},
		{Request{ID: 12, Kind: 3}, Reply{}}, {Request{ID: 12}, Reply{}}, {Request{ID: 12, Kind: 1, Piece: index.Piece{Header: p.Header}}, Reply{}},
	} {
		if got := Do(r, c.q); !sameReply(got, c.want) {
			t.Error(i, got)
		}
		b, e := Bytes(c.q)
		want, f := ReplyBytes(c.want)
		got, ok := Serve(r, b)
		if e != api.OK && (ok || len(got) != 0) || e == api.OK && f == api.OK && c.want.Err == api.OK && (!ok || !bytes.Equal(got, want)) {
			t.Error(i, "served")
		}
	}
}

func TestServeRefusesWhatIsNone(t *testing.T) {
	r := newRelay(t, 400)
	for _, b := range [][]byte{nil, {}, {1, 2}, {0, 0, 0}, make([]byte, 20000)} {
		if got, ok := Serve(r, b); ok || len(got) != 0 {
			t.Error(b)
		}
	}
	if r.Count() != 0 {
		t.Error("something was pushed")
	}
}

func TestAFullRelayTellsItsError(t *testing.T) {
	r := newRelay(t, 12)
	if got := Do(r, Request{ID: 3, Kind: 1, Piece: piece(1, entry.Header{}, 2064)}); !sameReply(got, Reply{ID: 3, Kind: 1, Err: api.ErrFull}) {
		t.Error(got)
	}
}

func TestALongPullIsCut(t *testing.T) {
	r := newRelay(t, 2000)
	l := batch(8, 2064)
	for _, p := range l {
		r.Push(p)
	}
	got := Do(r, Request{Kind: 2, Most: 8, Wish: filter.Wish{All: true}})
	if len(got.Pieces) != 6 || !slices.EqualFunc(got.Pieces, l[:6], samePiece) || !FormedReply(got) {
		t.Error(len(got.Pieces))
	}
	if got := Do(r, Request{Kind: 2, Most: 8}); len(got.Pieces) != 8 {
		t.Error(len(got.Pieces))
	}
	b, _ := Bytes(Request{Kind: 2, Most: 8, Wish: filter.Wish{All: true}})
	if told, ok := Serve(r, b); !ok || len(told) != 16384 {
		t.Error(ok, len(told))
	}
}
