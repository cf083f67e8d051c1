package vector

import (
	"math"
	"math/rand"
	"slices"
	"testing"

	"jalousie/api"
	"jalousie/entry"
)

// header is a formed header of a writer's number, at a time, that knows v (and its own ones).
func header(writer int, seq, time uint64, v Vector) entry.Header {
	h := entry.Header{Writer: writer, Seq: seq, Time: time, Tokens: []api.Token{{byte(writer)}}, Knows: v, Size: 80}
	h.Knows[writer-1] = seq - 1
	if seq > 1 {
		h.Prev = api.Hash{1}
	}
	return h
}

func TestGreatJoinMeet(t *testing.T) {
	a, b := Vector{1, 5, 3, 0, 0, 9}, Vector{1, 4, 7, 0, 0, 9}
	if Great(a, b) || Great(b, a) || !Great(a, a) || !Great(a, Vector{}) || Great(Vector{}, a) {
		t.Error("great")
	}
	for i := range a {
		c := a
		c[i]++
		if !Great(c, a) || Great(a, c) {
			t.Error("great", i)
		}
	}
	if Join(a, b) != (Vector{1, 5, 7, 0, 0, 9}) || Join(b, a) != Join(a, b) {
		t.Error("join")
	}
	if Meet(a, b) != (Vector{1, 4, 3, 0, 0, 9}) || Meet(b, a) != Meet(a, b) {
		t.Error("meet")
	}
	if a != (Vector{1, 5, 3, 0, 0, 9}) {
		t.Error("an argument was changed")
	}
}

func TestReady(t *testing.T) {
	v := Vector{2, 5, 0}
	unformed := header(1, 3, 1, v)
	unformed.Size = 1
	cases := []struct {
		h    entry.Header
		want bool
	}{
		{header(1, 3, 1, v), true}, {header(1, 3, 1, Vector{}), true}, {header(6, 1, 1, v), true},
		{header(1, 2, 1, Vector{}), false}, {header(1, 4, 1, Vector{}), false}, {header(6, 2, 1, Vector{}), false},
		{header(1, 3, 1, Vector{0, 6}), false}, {header(1, 3, 1, Vector{0, 0, 0, 0, 0, 1}), false},
		{unformed, false}, {entry.Header{}, false}, {entry.Header{Writer: -3}, false},
	}
	for i, c := range cases {
		if Ready(v, c.h) != c.want {
			t.Error(i)
		}
	}
}

func TestTotalAndMissing(t *testing.T) {
	if n := Total(Vector{1, 2, 3, 4, 5, 6}); n != 21 {
		t.Error(n)
	}
	if n := Total(Vector{api.MaxSeq, api.MaxSeq + 1, math.MaxUint64, 1}); n != 3*api.MaxSeq+1 {
		t.Error(n)
	}
	if n := Missing(Vector{}, Vector{1, 2}); n != 3 {
		t.Error(n)
	}
	if n := Missing(Vector{5, 1, 1}, Vector{1, 2, 1}); n != 1 {
		t.Error(n)
	}
	if n := Missing(Vector{1}, Vector{1<<40 + 1, 1<<40 + 1, math.MaxUint64}); n != 3<<40 {
		t.Error(n)
	}
	if n := Missing(Vector{1}, Vector{1 << 40}); n != 1<<40-1 {
		t.Error(n)
	}
}

func TestOrderTakesTheLeastTimeThenTheLeastWriter(t *testing.T) {
	l := []entry.Header{
		header(1, 2, 9, Vector{0, 1}), header(2, 1, 5, Vector{}), header(1, 1, 5, Vector{}), header(3, 1, 4, Vector{0, 0, 0, 1}),
		header(4, 1, 7, Vector{}), header(5, 2, 0, Vector{}), header(2, 2, 8, Vector{2}), {Writer: 9, Seq: 1}, {},
	}
	keep := slices.Clone(l)
	got, v := Order(Vector{}, l)
	var want []entry.Header
	for _, i := range []int{2, 1, 4, 3, 0, 6} {
		want = append(want, l[i])
	}
	if !slices.EqualFunc(got, want, entry.Same) || v != (Vector{2, 2, 1, 1}) {
		t.Error(got, v)
	}
	if !slices.EqualFunc(l, keep, entry.Same) {
		t.Error("an argument was turned round")
	}
	got[0].Tokens[0] = api.Token{88}
	if l[2].Tokens[0] != (api.Token{1}) {
		t.Error("memory is shared")
	}
}

func TestOrderFromAVector(t *testing.T) {
	l := []entry.Header{header(1, 3, 1, Vector{}), header(1, 4, 2, Vector{0, 1}), header(2, 5, 3, Vector{})}
	if got, v := Order(Vector{2}, l); len(got) != 1 || got[0].Seq != 3 || v != (Vector{3}) {
		t.Error(got, v)
	}
	if got, v := Order(Vector{2, 4}, l); len(got) != 3 || v != (Vector{4, 5}) {
		t.Error(got, v)
	}
	from := Vector{math.MaxUint64, 7}
	if got, v := Order(from, l); len(got) != 0 || v != from {
		t.Error(got, v)
	}
	if got, v := Order(Vector{}, nil); len(got) != 0 || v != (Vector{}) {
		t.Error(got, v)
	}
}

func TestOrderOfTwoOfOneNumber(t *testing.T) {
	a, b := header(1, 1, 5, Vector{}), header(1, 1, 5, Vector{})
	a.Code, b.Code = api.Hash{1}, api.Hash{2}
	early := header(1, 1, 4, Vector{})
	if got, v := Order(Vector{}, []entry.Header{b, a}); len(got) != 1 || !entry.Same(got[0], b) || v != (Vector{1}) {
		t.Error(got, v)
	}
	if got, _ := Order(Vector{}, []entry.Header{b, a, early}); len(got) != 1 || !entry.Same(got[0], early) {
		t.Error(got)
	}
}

// history is a random history of some writers, each entry ready behind those ahead of it.
func history(random *rand.Rand, n int) []entry.Header {
	var v Vector
	var l []entry.Header
	for range n {
		knows := v
		for i := range knows {
			knows[i] = uint64(random.Int63n(int64(v[i]) + 1))
		}
		w := random.Intn(4)
		l = append(l, header(w+1, v[w]+1, uint64(random.Intn(6)), knows))
		v[w]++
	}
	return l
}

func TestHoweverTheListIsTurnedRoundTheSameComes(t *testing.T) {
	random := rand.New(rand.NewSource(3))
	for range 100 {
		l := history(random, 30)
		want, v := Order(Vector{}, l)
		if len(want) != 30 || Total(v) != 30 {
			t.Fatal(len(want), v)
		}
		check := Vector{}
		for i, h := range want {
			if !Ready(check, h) {
				t.Fatal(i, "isn't ready")
			}
			check[h.Writer-1]++
		}
		for range 5 {
			random.Shuffle(len(l), func(i, j int) { l[i], l[j] = l[j], l[i] })
			if got, w := Order(Vector{}, l); !slices.EqualFunc(got, want, entry.Same) || w != v {
				t.Fatal("another order")
			}
		}
	}
}
