package net

import (
	"bytes"
	"math"
	"slices"
	"testing"

	"jalousie/api"
)

func letter(b byte) Letter { return Letter{From: int(b), To: 10 + int(b), Bytes: []byte{b}} }

func same(a, b Letter) bool {
	return a.From == b.From && a.To == b.To && bytes.Equal(a.Bytes, b.Bytes)
}

// way is the first bytes of all letters.
func way(n *Net) string {
	var s string
	for _, l := range n.Way() {
		s += string(l.Bytes)
	}
	return s
}

func sent(s string) *Net {
	n := New()
	for _, b := range []byte(s) {
		n.Send(letter(b))
	}
	return n
}

func TestSendAndWay(t *testing.T) {
	n := New()
	if n.Count() != 0 || len(n.Way()) != 0 {
		t.Error("something is under way")
	}
	for i, l := range []Letter{letter('a'), {From: -5, To: math.MaxInt}, letter('a'), {Bytes: make([]byte, 4*api.MaxBytes)}} {
		if !n.Send(l) || n.Count() != i+1 || !same(n.Way()[i], l) {
			t.Error(i)
		}
	}
	if n.Send(Letter{Bytes: make([]byte, 4*api.MaxBytes+1)}) || n.Count() != 4 {
		t.Error("too long a letter")
	}
}

func TestAtMostMaxWay(t *testing.T) {
	n := New()
	for range api.MaxWay {
		if !n.Send(letter('x')) {
			t.Fatal(n.Count())
		}
	}
	if n.Send(letter('y')) || n.Double(0) || n.Count() != api.MaxWay {
		t.Error(n.Count())
	}
	n.Take(0)
	if !n.Double(0) || n.Send(letter('y')) || n.Count() != api.MaxWay {
		t.Error(n.Count())
	}
}

func TestAtAndTake(t *testing.T) {
	for i, want := range map[int]byte{0: 'a', 1: 'b', 2: 'c', 3: 'a', 5: 'c', -1: 'a', math.MinInt: 'a', math.MaxInt: "abc"[math.MaxInt%3]} {
		n := sent("abc")
		if l, ok := n.At(i); !ok || !same(l, letter(want)) || n.Count() != 3 {
			t.Error(i, l)
		}
		l, ok := n.Take(i)
		left := slices.DeleteFunc([]byte("abc"), func(b byte) bool { return b == want })
		if !ok || !same(l, letter(want)) || way(n) != string(left) {
			t.Error(i, l, way(n))
		}
	}
	n := New()
	for _, i := range []int{0, 1, -1} {
		if l, ok := n.At(i); ok || !same(l, Letter{}) {
			t.Error(i)
		}
		if l, ok := n.Take(i); ok || !same(l, Letter{}) {
			t.Error(i)
		}
		if n.Double(i) || n.Turn(i, nil) {
			t.Error(i)
		}
	}
}

func TestDouble(t *testing.T) {
	n := sent("ab")
	if !n.Double(0) || way(n) != "aba" || !n.Double(7) || way(n) != "abab" || !n.Double(-4) || way(n) != "ababa" {
		t.Error(way(n))
	}
	n = sent("ab")
	n.Double(0)
	if l, ok := n.Take(2); !ok || !same(l, letter('a')) {
		t.Error(l)
	}
}

func TestTurn(t *testing.T) {
	n := sent("abc")
	b := []byte("x")
	if !n.Turn(4, b) || way(n) != "axc" {
		t.Error(way(n))
	}
	b[0] = 'y'
	if l, _ := n.At(1); string(l.Bytes) != "x" || l.From != 'b' || l.To != 10+'b' {
		t.Error(l)
	}
	if n.Turn(1, make([]byte, 4*api.MaxBytes+1)) || way(n) != "axc" {
		t.Error(way(n))
	}
	if !n.Turn(1, make([]byte, 4*api.MaxBytes)) || !n.Turn(-1, nil) {
		t.Error("a letter's bytes")
	}
}

func TestLettersShareNothing(t *testing.T) {
	n := New()
	l := letter('a')
	n.Send(l)
	n.Double(0)
	l.Bytes[0] = 'x'
	n.Way()[0].Bytes[0] = 'x'
	at, _ := n.At(0)
	at.Bytes[0] = 'x'
	if way(n) != "aa" {
		t.Error(way(n))
	}
	n.Turn(0, []byte("b"))
	taken, _ := n.Take(0)
	taken.Bytes[0] = 'x'
	if way(n) != "a" {
		t.Error(way(n))
	}
}
