package group

import (
	"bytes"
	"math"
	"testing"

	"jalousie/api"
	"jalousie/control"
	"jalousie/entry"
)

// five is a group of the owner 2, with the members 1, 2, 3; 4 is gone.
func five() Group {
	return Group{
		Owner: 2, Epoch: 5, Seen: 5,
		Members: [api.MaxMembers]bool{true, true, true},
		Gone:    [api.MaxMembers]bool{3: true},
		Cut:     [api.MaxMembers]uint64{3: 7},
	}
}

func TestMay(t *testing.T) {
	last := five()
	last.Epoch = api.MaxEpoch
	none := Group{}
	spent := Group{Epoch: api.MaxEpoch}
	cases := []struct {
		g          Group
		writer     int
		op, member int
		want       api.Errno
	}{
		{none, 1, 1, 0, api.OK}, {none, 6, 1, 0, api.OK}, {spent, 1, 1, 0, api.ErrSpent},
		{none, 0, 1, 0, api.ErrArg}, {none, 7, 1, 0, api.ErrArg}, {none, -1, 1, 0, api.ErrArg}, {none, math.MaxInt, 1, 0, api.ErrArg},
		{none, 1, 0, 0, api.ErrArg}, {none, 1, 6, 0, api.ErrArg}, {none, 1, 1, 1, api.ErrArg}, {five(), 2, 4, 1, api.ErrArg},
		{five(), 2, 2, 0, api.ErrArg}, {five(), 2, 3, 7, api.ErrArg}, {five(), 2, 5, -1, api.ErrArg}, {five(), 1, 2, 0, api.ErrArg},
		{none, 1, 2, 1, api.ErrState}, {none, 1, 4, 0, api.ErrState}, {none, 1, 5, 2, api.ErrState},
		{five(), 2, 1, 0, api.ErrState}, {five(), 1, 1, 0, api.ErrState}, {last, 2, 1, 0, api.ErrState},
		{five(), 1, 2, 5, api.ErrState}, {five(), 1, 4, 0, api.ErrState}, {five(), 5, 4, 0, api.ErrState},
		{five(), 2, 2, 5, api.OK}, {five(), 2, 2, 1, api.ErrState}, {five(), 2, 2, 2, api.ErrState}, {five(), 2, 2, 4, api.ErrState},
		{five(), 2, 3, 1, api.OK}, {five(), 2, 3, 2, api.ErrState}, {five(), 2, 3, 4, api.ErrState}, {five(), 2, 3, 5, api.ErrState},
		{five(), 2, 5, 3, api.OK}, {five(), 2, 5, 2, api.ErrState}, {five(), 2, 5, 4, api.ErrState}, {five(), 2, 5, 6, api.ErrState},
		{five(), 2, 4, 0, api.OK}, {last, 2, 4, 0, api.ErrSpent}, {last, 2, 2, 5, api.ErrSpent}, {last, 2, 3, 1, api.ErrSpent},
		{last, 2, 5, 1, api.OK}, {last, 2, 2, 1, api.ErrState}, {last, 1, 4, 0, api.ErrState},
	}
	for i, c := range cases {
		if e := May(c.g, c.writer, c.op, c.member); e != c.want {
			t.Errorf("%d: %d, want %d", i, e, c.want)
		}
	}
}

func changed(f func(g *Group)) Group {
	g := five()
	g.Seen++
	g.Epoch++
	f(&g)
	return g
}

func TestBehind(t *testing.T) {
	cases := []struct {
		writer, op, member int
		cut                uint64
		want               Group
	}{
		{5, 1, 0, 0, changed(func(g *Group) { g.Owner, g.Members[4] = 5, true })},
		{1, 2, 6, 0, changed(func(g *Group) { g.Members[5] = true })},
		{2, 2, 4, 9, changed(func(g *Group) { g.Members[3] = true })},
		{2, 2, 1, 0, changed(func(*Group) {})},
		{2, 3, 1, 11, changed(func(g *Group) { g.Members[0], g.Gone[0], g.Cut[0] = false, true, 11 })},
		{2, 3, 4, 11, changed(func(g *Group) { g.Cut[3] = 11 })},
		{1, 4, 0, 3, changed(func(*Group) {})},
		{2, 5, 1, 0, changed(func(g *Group) { g.Owner, g.Epoch = 1, 5 })},
		{2, 5, 6, 0, changed(func(g *Group) { g.Owner, g.Epoch = 6, 5 })},
		{0, 4, 0, 0, five()}, {7, 4, 0, 0, five()}, {2, 0, 0, 0, five()}, {2, 6, 1, 0, five()}, {2, 2, 0, 0, five()}, {2, 4, 1, 0, five()}, {2, 3, 7, 0, five()},
	}
	for i, c := range cases {
		if got := Behind(five(), c.writer, c.op, c.member, c.cut); got != c.want {
			t.Errorf("%d: %v, want %v", i, got, c.want)
		}
	}
	if g := Behind(Group{}, 2, 1, 0, 0); g.Owner != 2 || g.Epoch != 1 || g.Seen != 1 || !Is(g, 2) {
		t.Error(g)
	}
}

func header(writer int) entry.Header {
	return entry.Header{Writer: writer, Seq: 1, Control: true, Size: 80}
}

func said(op, member int, cut uint64, slots ...int) control.Control {
	c := control.Control{Op: op, Member: member, Cut: cut}
	for _, i := range slots {
		c.Slots[i-1] = bytes.Repeat([]byte{1}, 48)
	}
	if op == 5 {
		c.Hand = bytes.Repeat([]byte{1}, 48)
	}
	return c
}

func TestApply(t *testing.T) {
	item := header(2)
	item.Control = false
	unformed := header(2)
	unformed.Size = 1
	last := five()
	last.Epoch = api.MaxEpoch
	cases := []struct {
		g    Group
		h    entry.Header
		c    control.Control
		want api.Errno
	}{
		{Group{}, header(2), said(1, 0, 0, 2), api.OK}, {five(), header(2), said(2, 6, 0, 1, 2, 3, 6), api.OK},
		{five(), header(2), said(3, 1, 4, 2, 3), api.OK}, {five(), header(2), said(4, 0, 0, 1, 2, 3), api.OK},
		{five(), header(2), said(5, 3, 0), api.OK}, {last, header(2), said(5, 3, 0), api.OK},
		{five(), item, said(4, 0, 0, 1, 2, 3), api.ErrArg}, {five(), unformed, said(4, 0, 0, 1, 2, 3), api.ErrArg},
		{five(), header(2), said(4, 0, 0), api.ErrArg}, {five(), header(2), said(4, 0, 1, 1, 2, 3), api.ErrArg}, {five(), header(1), control.Control{}, api.ErrArg},
		{five(), header(1), said(4, 0, 0, 1, 2, 3), api.ErrState}, {five(), header(2), said(2, 4, 0, 1), api.ErrState},
		{last, header(2), said(4, 0, 0, 1), api.ErrSpent},
		{five(), header(2), said(2, 6, 0, 1, 2, 3), api.ErrForm}, {five(), header(2), said(3, 1, 4, 1, 2, 3), api.ErrForm},
		{five(), header(2), said(4, 0, 0, 1, 2, 3, 4), api.ErrForm}, {five(), header(2), said(4, 0, 0, 1, 2), api.ErrForm}, {Group{}, header(2), said(1, 0, 0, 1), api.ErrForm},
	}
	for i, c := range cases {
		got, e := Apply(c.g, c.h, c.c)
		want := Group{}
		if c.want == api.OK {
			want = Behind(c.g, c.h.Writer, c.c.Op, c.c.Member, c.c.Cut)
		}
		if e != c.want || got != want {
			t.Errorf("%d: %d, %v", i, e, got)
		}
	}
}

func TestFold(t *testing.T) {
	l := []entry.Header{header(2), header(2), header(2), header(2), header(1), header(1), header(2)}
	c := []control.Control{
		said(1, 0, 0, 2), said(2, 1, 0, 1, 2), said(2, 3, 0, 1, 2, 3), said(5, 1, 0), said(3, 2, 9, 1, 3), said(4, 0, 0, 1, 3), said(4, 0, 0, 1, 3),
	}
	g, n := Fold(l, c)
	want := Group{Owner: 1, Epoch: 5, Seen: 6, Members: [api.MaxMembers]bool{true, false, true}, Gone: [api.MaxMembers]bool{1: true}, Cut: [api.MaxMembers]uint64{1: 9}}
	if g != want || n != 6 {
		t.Error(g, n)
	}
	if short, n := Fold(l[:2], c); n != 2 || short.Epoch != 2 {
		t.Error(short, n)
	}
	if short, n := Fold(l, c[:3]); n != 3 || short.Epoch != 3 {
		t.Error(short, n)
	}
	if g, n := Fold(nil, c); g != (Group{}) || n != 0 {
		t.Error(g, n)
	}
	if g, n := Fold(l[1:], c[1:]); g != (Group{}) || n != 0 {
		t.Error(g, n)
	}
}

func TestCountsAndIs(t *testing.T) {
	g := five()
	for _, c := range []struct {
		writer     int
		seq        uint64
		counts, is bool
	}{
		{1, 1, true, true}, {3, math.MaxUint64, true, true}, {4, 7, true, false}, {4, 1, true, false}, {4, 8, false, false},
		{5, 1, false, false}, {0, 0, false, false}, {7, 1, false, false}, {-1, 1, false, false}, {math.MaxInt, 0, false, false},
	} {
		if Counts(g, c.writer, c.seq) != c.counts || Is(g, c.writer) != c.is {
			t.Error(c)
		}
	}
	again := Behind(g, 2, 2, 4, 0)
	if !Counts(again, 4, 100) || !Is(again, 4) {
		t.Error("one that is a member again")
	}
}
