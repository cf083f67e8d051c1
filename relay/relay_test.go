package relay

import (
	"bytes"
	"errors"
	"fmt"
	"slices"
	"testing"

	"jalousie/api"
	"jalousie/disk"
	"jalousie/entry"
	"jalousie/filter"
	"jalousie/hash"
	"jalousie/index"
	"jalousie/pack"
	"jalousie/store"
	"jalousie/vector"
)

func open1(t *testing.T, d *disk.Disk) *Relay {
	t.Helper()
	r, e := Open(d)
	if e != api.OK {
		t.Fatal(e)
	}
	return r
}

// piece is a whole piece behind another one's header.
func piece(writer int, ahead entry.Header) index.Piece {
	body := bytes.Repeat([]byte{byte(writer)}, 80)
	h := entry.Header{Writer: writer, Seq: ahead.Seq + 1, Item: api.Token{1}, Tokens: []api.Token{{byte(writer)}}, Sum: hash.Sum(body), Size: 80}
	h.Knows[writer-1] = ahead.Seq
	if ahead.Seq > 0 {
		h.Prev = entry.Hash(ahead)
	}
	return index.Piece{Header: h, Body: body}
}

// some are n pieces of a writer.
func some(writer, n int) []index.Piece {
	var l []index.Piece
	ahead := entry.Header{}
	for range n {
		p := piece(writer, ahead)
		ahead = p.Header
		l = append(l, p)
	}
	return l
}

func same(a, b index.Piece) bool {
	return entry.Same(a.Header, b.Header) && bytes.Equal(a.Body, b.Body)
}

func TestOpenRefuses(t *testing.T) {
	if r, e := Open(disk.New(5)); e != api.ErrArg || r != nil {
		t.Error(e)
	}
	d := disk.New(100)
	d.Fuse(0)
	d.Sync()
	if r, e := Open(d); e != api.ErrLost || r != nil {
		t.Error(e)
	}
}

func texts(l ...[]byte) []byte {
	var o pack.Out
	for _, b := range l {
		o.Text(b)
	}
	b, _ := o.End()
	return b
}

func TestOpenRefusesRecords(t *testing.T) {
	l := some(1, 3)
	record := func(p index.Piece) []byte { return texts(entry.Bytes(p.Header), p.Body) }
	torn := l[0]
	torn.Body = torn.Body[:79]
	for i, records := range [][][]byte{
		{nil}, {{}}, {[]byte("abc")}, {entry.Bytes(l[0].Header)}, {texts(entry.Bytes(l[0].Header))}, {append(record(l[0]), 0)},
		{texts(entry.Bytes(l[0].Header), l[0].Body, nil)}, {texts(nil, l[0].Body)}, {texts(entry.Bytes(l[0].Header)[1:], l[0].Body)},
		{texts(entry.Bytes(l[0].Header), nil)}, {record(torn)}, {record(l[1])}, {record(l[0]), record(l[0])}, {record(l[0]), record(l[2])}, {record(l[0]), {}},
	} {
		d := disk.New(100)
		s, _ := store.Open(d)
		if e := s.Add(records...); e != api.OK {
			t.Fatal(e)
		}
		if r, e := Open(d); e != api.ErrForm || r != nil {
			t.Error(i, e)
		}
	}
	d := disk.New(100)
	s, _ := store.Open(d)
	s.Add(record(l[0]), record(l[1]))
	if r := open1(t, d); r.Count() != 2 {
		t.Error(r.Count())
	}
}

func TestPushIsKeptAndTold(t *testing.T) {
	d := disk.New(200)
	r := open1(t, d)
	if r.Count() != 0 || r.Over() || r.Heads() != (vector.Vector{}) {
		t.Error("a new relay has something")
	}
	l := slices.Concat(some(1, 3), some(4, 2))
	for i, p := range l {
		if e := r.Push(p); e != api.OK || r.Count() != i+1 {
			t.Error(i, e)
		}
		if e := r.Push(p); e != api.ErrOld || r.Count() != i+1 {
			t.Error(i, e)
		}
	}
	for _, r := range []*Relay{r, open1(t, d)} {
		if r.Heads() != (vector.Vector{3, 0, 0, 2}) || r.Count() != 5 {
			t.Error(r.Heads())
		}
		for i, p := range l {
			if q, e := r.Fetch(p.Header.Writer, p.Header.Seq); e != api.OK || !same(p, q) {
				t.Error(i, e)
			}
		}
		if q, e := r.Fetch(2, 1); e != api.ErrNone || !same(q, index.Piece{}) {
			t.Error(e)
		}
		got := r.Pull(vector.Vector{1}, filter.Wish{Tokens: []api.Token{{4}}}, 3)
		if len(got) != 3 || !same(got[0], index.Piece{Header: l[1].Header}) || !same(got[1], l[3]) || !same(got[2], index.Piece{Header: l[2].Header}) {
			t.Error(got)
		}
	}
}

func TestPushRefuses(t *testing.T) {
	r := open1(t, disk.New(200))
	l := some(1, 4)
	r.Push(l[0])
	r.Push(l[1])
	unformed, forked, broken, stub := l[2], l[1], l[2], l[2]
	unformed.Header.Size = 1
	forked.Header.Code[0]++
	broken.Header.Prev[0]++
	stub.Body = nil
	for i, c := range []struct {
		p    index.Piece
		want api.Errno
	}{{unformed, api.ErrArg}, {l[0], api.ErrOld}, {forked, api.ErrFork}, {l[3], api.ErrState}, {broken, api.ErrChain}, {stub, api.ErrForm}} {
		if e := r.Push(c.p); e != c.want || r.Count() != 2 || r.Over() {
			t.Error(i, e)
		}
	}
}

func TestAFullStore(t *testing.T) {
	d := disk.New(16)
	r := open1(t, d)
	l := some(1, 3)
	if e := r.Push(l[0]); e != api.OK {
		t.Fatal(e)
	}
	if e := r.Push(l[1]); e != api.ErrFull || r.Count() != 1 || r.Over() {
		t.Error(e)
	}
	if e := r.Push(l[2]); e != api.ErrState {
		t.Error("the index is asked first", e)
	}
	if open1(t, d).Count() != 1 {
		t.Error("what was refused is there")
	}
}

func TestAFullIndex(t *testing.T) {
	r := open1(t, disk.New(api.MaxSectors))
	for _, p := range some(1, api.MaxRelay) {
		if e := r.Push(p); e != api.OK {
			t.Fatal(e)
		}
	}
	if e := r.Push(piece(2, entry.Header{})); e != api.ErrFull || r.Count() != api.MaxRelay {
		t.Error(e)
	}
}

// A push is cut off at each call of the disk: what was there is there, the piece is, or isn't.
func TestACutOffPush(t *testing.T) {
	for fuse := range 9 {
		for _, fate := range [][]byte{nil, {64}, {20}, {150}, {64, 0}, {0, 64}, {9, 180, 64}} {
			d := disk.New(100)
			r := open1(t, d)
			l := some(1, 3)
			r.Push(l[0])
			d.Fuse(fuse)
			e := r.Push(l[1])
			if e != api.OK && (e != api.ErrLost || r.Count() != 1 || !r.Over() || r.Push(l[1]) != api.ErrLost || r.Push(l[0]) != api.ErrOld) {
				t.Fatal(fuse, e)
			}
			d.Crash(fate)
			again := open1(t, d)
			if p, f := again.Fetch(1, 1); f != api.OK || !same(p, l[0]) {
				t.Fatal(fuse, fate, "what was acked is lost")
			}
			if n := again.Count(); n > 2 || e == api.OK && n != 2 {
				t.Fatal(fuse, fate, n)
			}
			if e := again.Push(l[1]); e != api.OK && e != api.ErrOld {
				t.Fatal(fuse, fate, e)
			}
			if e := again.Push(l[2]); e != api.OK {
				t.Fatal(fuse, fate, e)
			}
		}
	}
}

func TestFaultsAreToldApart(t *testing.T) {
	d := disk.New(100)
	s, _ := store.Open(d)
	s.Add([]byte("abc"))
	_, err := open(d)
	var record *recordFault
	if !errors.As(err, &record) || record.at != 0 || !errors.Is(err, errNoPiece) {
		t.Error(err)
	}
	r := open1(t, disk.New(100))
	err = r.push(index.Piece{})
	var ofIndex *indexFault
	if !errors.As(err, &ofIndex) || ofIndex.number != api.ErrArg || fmt.Sprint(err) == "" {
		t.Error(err)
	}
	_, err = open(disk.New(1))
	var ofDisk *diskFault
	if !errors.As(err, &ofDisk) || ofDisk.number != api.ErrArg || fmt.Sprint(err) == "" {
		t.Error(err)
	}
	if told(&recordFault{3, &indexFault{api.ErrOld}}) != api.ErrForm || told(nil) != api.OK || told(errNoPiece) != api.ErrForm {
		t.Error("numbers")
	}
}
