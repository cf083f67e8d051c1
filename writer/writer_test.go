package writer

import (
	"math"
	"testing"

	"jalousie/api"
	"jalousie/entry"
)

// next is a header of a writer behind another one's hash.
func next(writer int, seq uint64, prev api.Hash) entry.Header {
	h := entry.Header{Writer: writer, Seq: seq, Prev: prev, Time: seq, Item: api.Token{1}, Tokens: []api.Token{{byte(seq)}}, Size: 80}
	h.Knows[writer-1] = seq - 1
	return h
}

// some are n headers in a chain.
func some(writer, n int) []entry.Header {
	var l []entry.Header
	prev := api.Hash{}
	for i := range n {
		h := next(writer, uint64(i+1), prev)
		prev = entry.Hash(h)
		l = append(l, h)
	}
	return l
}

func chainOf(t *testing.T, writer, n int) *Chain {
	t.Helper()
	c := New(writer)
	for _, h := range some(writer, n) {
		if e := c.Add(h); e != api.OK {
			t.Fatal(e)
		}
	}
	return c
}

func TestAChainGrows(t *testing.T) {
	c := New(3)
	if c.Writer() != 3 || c.Head() != 0 || c.Tip() != (api.Hash{}) {
		t.Error("a new chain has something")
	}
	for i, h := range some(3, 5) {
		if e := c.Ask(h); e != api.OK || c.Head() != uint64(i) {
			t.Error(i, "ask", e)
		}
		if e := c.Add(h); e != api.OK || c.Head() != uint64(i+1) || c.Tip() != entry.Hash(h) {
			t.Error(i, "add", e)
		}
		if got, ok := c.At(uint64(i + 1)); !ok || !entry.Same(got, h) {
			t.Error(i, "at")
		}
	}
	for _, seq := range []uint64{0, 6, math.MaxUint64} {
		if h, ok := c.At(seq); ok || !entry.Same(h, entry.Header{}) {
			t.Error(seq)
		}
	}
}

func TestAddRefuses(t *testing.T) {
	c := chainOf(t, 2, 3)
	l := some(2, 6)
	forked := l[1]
	forked.Code[0]++
	forkedPrev := l[1]
	forkedPrev.Prev[0]++
	broken := l[3]
	broken.Prev[0]++
	unformed := l[3]
	unformed.Size = 5
	oldUnformed := l[0]
	oldUnformed.Size = 5
	other := next(3, 1, api.Hash{})
	cases := []struct {
		h    entry.Header
		want api.Errno
	}{
		{unformed, api.ErrArg}, {oldUnformed, api.ErrArg}, {other, api.ErrArg}, {entry.Header{}, api.ErrArg},
		{l[0], api.ErrOld}, {l[2], api.ErrOld}, {forked, api.ErrFork}, {forkedPrev, api.ErrFork},
		{l[4], api.ErrState}, {next(2, api.MaxSeq, api.Hash{}), api.ErrState}, {broken, api.ErrChain},
	}
	for i, k := range cases {
		if e := c.Ask(k.h); e != k.want {
			t.Error(i, "ask", e)
		}
		if e := c.Add(k.h); e != k.want || c.Head() != 3 || c.Tip() != entry.Hash(l[2]) {
			t.Error(i, "add", e)
		}
	}
	if e := New(2).Add(l[1]); e != api.ErrState {
		t.Error("the number 2, put first", e)
	}
	for _, writer := range []int{0, -1, 7, math.MaxInt} {
		if e := New(writer).Add(next(1, 1, api.Hash{})); e != api.ErrArg {
			t.Error(writer, e)
		}
	}
}

func TestAChainSharesNothing(t *testing.T) {
	c, h := New(1), next(1, 1, api.Hash{})
	c.Add(h)
	h.Tokens[0] = api.Token{77}
	got, _ := c.At(1)
	got.Tokens[0] = api.Token{78}
	c.From(1, 1)[0].Tokens[0] = api.Token{79}
	if got, _ := c.At(1); got.Tokens[0] != (api.Token{1}) {
		t.Error(got.Tokens)
	}
}

func TestFrom(t *testing.T) {
	c := chainOf(t, 1, 5)
	cases := []struct {
		seq  uint64
		most int
		from uint64
		n    int
	}{
		{0, 9, 1, 5}, {1, 9, 1, 5}, {2, 2, 2, 2}, {5, 1, 5, 1}, {5, math.MaxInt, 5, 1}, {0, 1, 1, 1},
		{6, 1, 0, 0}, {math.MaxUint64, 1, 0, 0}, {1, 0, 0, 0}, {1, -1, 0, 0}, {0, math.MinInt, 0, 0},
	}
	for _, k := range cases {
		l := c.From(k.seq, k.most)
		if len(l) != k.n {
			t.Error(k, len(l))
		}
		for i, h := range l {
			if want, _ := c.At(k.from + uint64(i)); !entry.Same(h, want) {
				t.Error(k, i)
			}
		}
	}
	if len(New(1).From(0, 5)) != 0 {
		t.Error("headers of none")
	}
}

func TestLinked(t *testing.T) {
	l := some(4, 6)
	for i := range l {
		for j := i; j <= len(l); j++ {
			if !Linked(l[i:j]) {
				t.Error(i, j)
			}
		}
	}
	unformed := entry.Header{Writer: 4}
	broken := l[3]
	broken.Prev[0]++
	moved := next(5, 4, entry.Hash(l[2]))
	far := next(4, 5, entry.Hash(l[2]))
	for i, bad := range [][]entry.Header{
		{unformed}, {l[0], unformed}, {l[2], broken}, {l[2], moved}, {l[2], far}, {l[1], l[0]}, {l[0], l[2]}, {l[0], l[0]}, {l[0], l[1], l[3]},
	} {
		if Linked(bad) {
			t.Error(i)
		}
	}
}
