package index

import (
	"bytes"
	"math"
	"testing"

	"jalousie/api"
	"jalousie/entry"
	"jalousie/filter"
	"jalousie/hash"
	"jalousie/vector"
)

// piece is a whole piece behind another one's header, with a token.
func piece(writer int, ahead entry.Header, token byte) Piece {
	body := bytes.Repeat([]byte{byte(writer)}, 80)
	h := entry.Header{Writer: writer, Seq: ahead.Seq + 1, Item: api.Token{1}, Tokens: []api.Token{{token}}, Sum: hash.Sum(body), Size: 80}
	h.Knows[writer-1] = ahead.Seq
	if ahead.Seq > 0 {
		h.Prev = entry.Hash(ahead)
	}
	return Piece{h, body}
}

// filled is an index with so many pieces of each writer; every other one has the token 2.
func filled(t *testing.T, counts ...int) *Index {
	t.Helper()
	x := New()
	for i, n := range counts {
		ahead := entry.Header{}
		for k := range n {
			p := piece(i+1, ahead, byte(1+k%2))
			if e := x.Put(p); e != api.OK {
				t.Fatal(e)
			}
			ahead = p.Header
		}
	}
	return x
}

func same(a, b Piece) bool { return entry.Same(a.Header, b.Header) && bytes.Equal(a.Body, b.Body) }

func TestWhole(t *testing.T) {
	p := piece(1, entry.Header{}, 1)
	if !Whole(p) {
		t.Error("a whole piece isn't")
	}
	other := bytes.Clone(p.Body)
	other[0]++
	for i, q := range []Piece{{Header: p.Header}, {p.Header, other}, {p.Header, p.Body[:79]}, {p.Header, append(bytes.Clone(p.Body), 0)}} {
		if Whole(q) {
			t.Error(i)
		}
	}
	sized := p
	sized.Header.Size = 144
	if Whole(sized) {
		t.Error("another size")
	}
	if !Whole(Piece{Header: entry.Header{Sum: hash.Sum()}}) {
		t.Error("a body of none, and its sum")
	}
}

func TestPutAndGet(t *testing.T) {
	x := New()
	if x.Count() != 0 || x.Heads() != (vector.Vector{}) {
		t.Error("a new index has something")
	}
	first := piece(2, entry.Header{}, 1)
	second := piece(2, first.Header, 2)
	for i, p := range []Piece{first, second, piece(5, entry.Header{}, 1)} {
		if e := x.Ask(p); e != api.OK || x.Count() != i {
			t.Error(i, e)
		}
		if e := x.Put(p); e != api.OK || x.Count() != i+1 {
			t.Error(i, e)
		}
	}
	if x.Heads() != (vector.Vector{0, 2, 0, 0, 1, 0}) {
		t.Error(x.Heads())
	}
	if p, e := x.Get(2, 2); e != api.OK || !same(p, second) {
		t.Error(e)
	}
	for _, c := range []struct {
		writer int
		seq    uint64
	}{{2, 0}, {2, 3}, {1, 1}, {0, 1}, {7, 1}, {-1, 1}, {math.MaxInt, 1}, {2, math.MaxUint64}} {
		if p, e := x.Get(c.writer, c.seq); e != api.ErrNone || !same(p, Piece{}) {
			t.Error(c, e)
		}
	}
}

func TestPutRefuses(t *testing.T) {
	x := filled(t, 2, 1)
	first, _ := x.Get(1, 1)
	last, _ := x.Get(1, 2)
	next := piece(1, last.Header, 1)
	unformed, forked, far, broken, stub, torn := next, first, next, next, next, next
	unformed.Header.Size = 1
	forked.Header.Code[0]++
	far.Header.Seq, far.Header.Knows[0] = 4, 3
	broken.Header.Prev[0]++
	stub.Body = nil
	torn.Body = bytes.Clone(next.Body)
	torn.Body[9]++
	oldStub, forkedStub, brokenStub := Piece{Header: first.Header}, Piece{Header: forked.Header}, Piece{Header: broken.Header}
	cases := []struct {
		p    Piece
		want api.Errno
	}{
		{unformed, api.ErrArg}, {Piece{}, api.ErrArg}, {first, api.ErrOld}, {oldStub, api.ErrOld}, {forked, api.ErrFork}, {forkedStub, api.ErrFork},
		{far, api.ErrState}, {broken, api.ErrChain}, {brokenStub, api.ErrChain}, {stub, api.ErrForm}, {torn, api.ErrForm},
	}
	for i, c := range cases {
		if e := x.Ask(c.p); e != c.want {
			t.Error(i, "ask", e)
		}
		if e := x.Put(c.p); e != c.want || x.Count() != 3 || x.Heads() != (vector.Vector{2, 1}) {
			t.Error(i, "put", e)
		}
	}
}

func TestAFullIndex(t *testing.T) {
	x := filled(t, 150, 100, 150)
	last, _ := x.Get(2, 100)
	next := piece(2, last.Header, 1)
	if e := x.Put(next); e != api.ErrFull || x.Count() != api.MaxRelay || x.Heads()[1] != 100 {
		t.Error(e)
	}
	next.Body = nil
	if e := x.Ask(next); e != api.ErrForm {
		t.Error("a stub is told first", e)
	}
	if e := x.Put(last); e != api.ErrOld {
		t.Error(e)
	}
}

func TestAnIndexSharesNothing(t *testing.T) {
	x, p := New(), piece(1, entry.Header{}, 1)
	keep := Piece{p.Header, bytes.Clone(p.Body)}
	keep.Header.Tokens = []api.Token{{1}}
	x.Put(p)
	p.Body[0], p.Header.Tokens[0] = 9, api.Token{9}
	for _, q := range []Piece{first(x.Get(1, 1)), x.Batch(vector.Vector{}, filter.Wish{All: true}, 1)[0]} {
		q.Body[1], q.Header.Tokens[0] = 9, api.Token{9}
	}
	if q := first(x.Get(1, 1)); !same(q, keep) {
		t.Error(q)
	}
}

func first(p Piece, _ api.Errno) Piece { return p }

// isBatch tells whether the batch is of these writers and numbers, with bodies as the wish wants.
func isBatch(t *testing.T, x *Index, l []Piece, w filter.Wish, want ...[2]int) {
	t.Helper()
	if len(l) != len(want) {
		t.Fatal(len(l), "pieces, not", len(want))
	}
	for i, p := range l {
		q, e := x.Get(want[i][0], uint64(want[i][1]))
		if !filter.Meets(w, q.Header) {
			q.Body = nil
		}
		if e != api.OK || !same(p, q) {
			t.Error(i, p.Header.Writer, p.Header.Seq, len(p.Body))
		}
	}
}

func TestBatch(t *testing.T) {
	x := filled(t, 3, 0, 5, 1)
	all, some, none := filter.Wish{All: true}, filter.Wish{Tokens: []api.Token{{2}}}, filter.Wish{}
	for _, w := range []filter.Wish{all, some, none} {
		isBatch(t, x, x.Batch(vector.Vector{}, w, 8), w, [2]int{1, 1}, [2]int{3, 1}, [2]int{4, 1}, [2]int{1, 2}, [2]int{3, 2}, [2]int{1, 3}, [2]int{3, 3}, [2]int{3, 4})
		isBatch(t, x, x.Batch(vector.Vector{2, 0, 3, 1}, w, 8), w, [2]int{1, 3}, [2]int{3, 4}, [2]int{3, 5})
		isBatch(t, x, x.Batch(vector.Vector{}, w, 2), w, [2]int{1, 1}, [2]int{3, 1})
		isBatch(t, x, x.Batch(vector.Vector{math.MaxUint64, 9, 4, 2}, w, 100), w, [2]int{3, 5})
	}
	if n := len(x.Batch(vector.Vector{}, all, math.MaxInt)); n != api.MaxBatch {
		t.Error(n)
	}
	for _, most := range []int{0, -1, math.MinInt} {
		if l := x.Batch(vector.Vector{}, all, most); len(l) != 0 {
			t.Error(most, len(l))
		}
	}
	if l := New().Batch(vector.Vector{}, all, 8); len(l) != 0 {
		t.Error(len(l))
	}
}

func TestControlEntriesAlwaysComeWhole(t *testing.T) {
	x, p := New(), piece(1, entry.Header{}, 1)
	p.Header.Control, p.Header.Item, p.Header.Tokens = true, api.Token{}, nil
	x.Put(p)
	if l := x.Batch(vector.Vector{}, filter.Wish{}, 8); len(l) != 1 || !same(l[0], p) {
		t.Error(l)
	}
}

func TestBatchAfterBatchAllPiecesCome(t *testing.T) {
	x := filled(t, 20, 3, 0, 11, 7, 1)
	for most := 1; most <= 9; most++ {
		var cursor vector.Vector
		met := 0
		for {
			l := x.Batch(cursor, filter.Wish{}, most)
			if len(l) == 0 {
				break
			}
			for _, p := range l {
				if p.Header.Seq != cursor[p.Header.Writer-1]+1 {
					t.Fatal("not the next one")
				}
				cursor[p.Header.Writer-1]++
				met++
			}
		}
		if met != x.Count() || cursor != x.Heads() {
			t.Error(most, met)
		}
	}
}
