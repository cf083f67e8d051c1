package store

import (
	"bytes"
	"errors"
	"fmt"
	"slices"
	"testing"

	"jalousie/api"
	"jalousie/cells"
	"jalousie/disk"
)

func open(t *testing.T, d *disk.Disk) *Store {
	t.Helper()
	s, e := Open(d)
	if e != api.OK {
		t.Fatal(e)
	}
	return s
}

func texts(l ...string) [][]byte {
	var out [][]byte
	for _, s := range l {
		out = append(out, []byte(s))
	}
	return out
}

func same(s *Store, l [][]byte) bool {
	return slices.EqualFunc(s.Records(), l, bytes.Equal)
}

func TestOpenRefuses(t *testing.T) {
	for n := range 6 {
		if s, e := Open(disk.New(n)); e != api.ErrArg || s != nil {
			t.Error(n, e)
		}
	}
	d := disk.New(6)
	d.Fuse(0)
	d.Sync()
	if s, e := Open(d); e != api.ErrLost || s != nil {
		t.Error(e)
	}
}

func TestANewStore(t *testing.T) {
	for n, room := range map[int]int{6: 64, 7: 64, 8: 128, 20: 512} {
		s := open(t, disk.New(n))
		if s.Room() != room || len(s.Records()) != 0 || s.Generation() != 0 || s.Over() {
			t.Error(n, s.Room())
		}
	}
}

func TestAddAndOpenAgain(t *testing.T) {
	d := disk.New(20)
	s := open(t, d)
	l := texts("one", "", "three")
	if e := s.Add(l...); e != api.OK || !same(s, l) || s.Room() != 512-11 {
		t.Error(e, s.Records())
	}
	if e := s.Add(); e != api.OK || !same(s, l) {
		t.Error(e)
	}
	long := bytes.Repeat([]byte("x"), 200)
	if e := s.Add(long); e != api.OK || s.Room() != 512-11-202 {
		t.Error(e, s.Room())
	}
	clear(long)
	s.Records()[3][0] = 'y'
	want := append(l, bytes.Repeat([]byte("x"), 200))
	if !same(s, want) || !same(open(t, d), want) || d.Loose() != 0 {
		t.Error("opened again")
	}
	if e := s.Add(nil); e != api.OK || !same(s, append(want, nil)) || s.Room() != 512-11-203 {
		t.Error("a record of no bytes", e)
	}
}

func TestAddRefuses(t *testing.T) {
	s := open(t, disk.New(6))
	s.Add([]byte("one"))
	want := texts("one")
	if e := s.Add([]byte("two"), make([]byte, api.MaxBytes+1)); e != api.ErrLong || !same(s, want) {
		t.Error(e)
	}
	if e := s.Add(make([]byte, 40), make([]byte, 20)); e != api.ErrFull || !same(s, want) {
		t.Error(e)
	}
	if e := s.Add(make([]byte, 40), make([]byte, 18)); e != api.OK || s.Room() != 0 {
		t.Error(e)
	}
	if e := s.Add(nil); e != api.ErrFull {
		t.Error(e)
	}
	if e := s.Add(); e != api.OK {
		t.Error(e)
	}
	big := open(t, disk.New(400))
	if e := big.Add(make([]byte, api.MaxBytes), make([]byte, api.MaxBytes)); e != api.OK || len(big.Records()[1]) != api.MaxBytes {
		t.Error(e)
	}
}

func TestCompact(t *testing.T) {
	d := disk.New(12)
	s := open(t, d)
	for i := range 5 {
		s.Add([]byte("record"))
		l := texts(fmt.Sprint(i), "kept")
		if e := s.Compact(l); e != api.OK || !same(s, l) || s.Generation() != uint64(i+1) || s.Room() != 256-2-5 {
			t.Fatal(i, e, s.Records())
		}
		if e := s.Add([]byte("more")); e != api.OK || !same(s, append(l, []byte("more"))) {
			t.Fatal(i, e)
		}
		s = open(t, d)
		if !same(s, append(l, []byte("more"))) || s.Generation() != uint64(i+1) {
			t.Fatal(i, "opened again")
		}
	}
	if e := s.Compact(nil); e != api.OK || len(s.Records()) != 0 || s.Generation() != 6 || s.Room() != 256 {
		t.Error(e)
	}
}

func TestCompactRefuses(t *testing.T) {
	s := open(t, disk.New(6))
	s.Add([]byte("one"))
	if e := s.Compact([][]byte{make([]byte, api.MaxBytes+1), make([]byte, 100)}); e != api.ErrLong || !same(s, texts("one")) {
		t.Error(e)
	}
	if e := s.Compact([][]byte{make([]byte, 64)}); e != api.ErrFull || !same(s, texts("one")) || s.Generation() != 0 {
		t.Error(e)
	}
	if e := s.Compact([][]byte{make([]byte, 63)}); e != api.OK || s.Room() != 0 {
		t.Error(e)
	}
}

// rawHead puts a head for a log of the disk, both halves.
func rawHead(d *disk.Disk, sector int, serial, count, generation uint64) {
	var b []byte
	for _, x := range []uint64{serial, count, generation, 0} {
		for i := 7; i >= 0; i-- {
			b = append(b, byte(x>>(8*i)))
		}
	}
	d.Write(sector, append(b, b...))
}

func TestTheStoresLogIsThatOfTheGreaterGeneration(t *testing.T) {
	for _, c := range []struct{ first, second, want uint64 }{{0, 0, 0}, {1, 0, 0}, {0, 1, 1}, {5, 5, 0}, {1 << 63, 1, 0}, {255, 256, 1}} {
		d := disk.New(6)
		rawHead(d, 0, 2, 2, c.first)
		rawHead(d, 3, 2, 2, c.second)
		d.Write(2, append([]byte{1, 0}, make([]byte, 62)...))
		d.Write(5, append([]byte{1, 1}, make([]byte, 62)...))
		if s := open(t, d); !same(s, [][]byte{{byte(c.want)}}) || s.Generation() != max(c.first, c.second) {
			t.Error(c, s.Records())
		}
	}
}

func TestRecordsAsFarAsTheyAreTexts(t *testing.T) {
	d := disk.New(6)
	rawHead(d, 0, 2, 6, 0)
	d.Write(2, append([]byte{1, 'a', 0, 9, 'b', 'c'}, make([]byte, 58)...))
	s := open(t, d)
	if !same(s, texts("a", "")) || s.Room() != 58 {
		t.Error(s.Records())
	}
}

func TestSpentNumbers(t *testing.T) {
	cases := []struct {
		name                      string
		first, second, generation uint64
		add, compact              api.Errno
	}{
		{"first", 1<<62 - 2, 0, 0, api.OK, api.ErrSpent},
		{"second", 0, 1<<62 - 2, 0, api.OK, api.ErrSpent},
		{"generation", 0, 0, 1<<62 - 2, api.OK, api.ErrSpent},
		{"just not", 1<<62 - 4, 1<<62 - 4, 1<<62 - 3, api.OK, api.OK},
		{"all", 1 << 62, 0, 0, api.ErrSpent, api.ErrSpent},
	}
	for _, c := range cases {
		d := disk.New(6)
		rawHead(d, 0, c.first, 0, c.generation)
		rawHead(d, 3+int(c.second%2), c.second, 0, 0)
		s := open(t, d)
		if e := s.Add([]byte("x")); e != c.add {
			t.Error(c.name, "add", e)
		}
		if e := s.Add(make([]byte, 64)); e != api.ErrFull {
			t.Error(c.name, "room is asked ahead of numbers", e)
		}
		if e := s.Add(); e != c.add {
			t.Error(c.name, "add none", e)
		}
		if e := s.Compact(texts("y")); e != c.compact {
			t.Error(c.name, "compact", e)
		}
		if s.Over() {
			t.Error(c.name, "over")
		}
	}
}

// Each call is cut off at each call of the disk: the records are those ahead, or those behind.
func TestACutOffCallIsDoneOrNot(t *testing.T) {
	calls := map[string]func(*Store) api.Errno{
		"add":          func(s *Store) api.Errno { return s.Add([]byte("new"), bytes.Repeat([]byte("n"), 70)) },
		"compact":      func(s *Store) api.Errno { return s.Compact(texts("c", "d")) },
		"compact none": func(s *Store) api.Errno { return s.Compact(nil) },
	}
	for name, call := range calls {
		for ahead := range 4 {
			for fuse := range 8 {
				for _, fate := range [][]byte{nil, {64}, {1}, {129}, {16}, {40}, {150}, {180}, {64, 0}, {0, 64}, {3, 140}} {
					cutOff(t, fmt.Sprint(name, " ", ahead, " ", fuse, " ", fate), call, ahead, fuse, fate)
				}
			}
		}
	}
}

func prepared(t *testing.T, ahead int) (*disk.Disk, *Store) {
	t.Helper()
	d := disk.New(14)
	s := open(t, d)
	for i := range ahead {
		s.Add([]byte(fmt.Sprint("old", i)))
		if i%2 == 1 {
			s.Compact(s.Records())
		}
	}
	return d, s
}

func cutOff(t *testing.T, name string, call func(*Store) api.Errno, ahead, fuse int, fate []byte) {
	t.Helper()
	d, s := prepared(t, ahead)
	_, behind := prepared(t, ahead)
	before := s.Records()
	call(behind)
	d.Fuse(fuse)
	e := call(s)
	if e != api.OK && (e != api.ErrLost || !s.Over() || !same(s, before)) {
		t.Fatal(name, e)
	}
	if e == api.ErrLost && (s.Add() != api.ErrLost || s.Add(make([]byte, 5000)) != api.ErrLost || s.Compact(nil) != api.ErrLost) {
		t.Fatal(name, "a store that is over does something")
	}
	d.Crash(fate)
	again := open(t, d)
	if !same(again, behind.Records()) && (e == api.OK || !same(again, before)) {
		t.Fatal(name, again.Records())
	}
	records := again.Records()
	if e := again.Add([]byte("on")); e != api.OK || !same(open(t, d), append(records, []byte("on"))) {
		t.Fatal(name, "it doesn't go on", e)
	}
}

func TestFaultsAreToldApart(t *testing.T) {
	l, e := cells.Open(disk.New(3), 0, 3)
	if e != api.OK {
		t.Fatal(e)
	}
	err := failed("append", l.Append(make([]byte, 65), [16]byte{}))
	if !errors.Is(err, errFull) || told(err) != api.ErrFull || err.Error() == "" {
		t.Error(err)
	}
	for _, e := range []api.Errno{api.OK, api.ErrArg, api.ErrFull, api.ErrLost, api.ErrSpent} {
		if told(failed("x", e)) != e {
			t.Error(e)
		}
	}
}

func TestAZeroStoreIsOver(t *testing.T) {
	var s Store
	if !s.Over() || s.Add([]byte("x")) != api.ErrLost || s.Compact(nil) != api.ErrLost || len(s.Records()) != 0 || s.Room() != 0 {
		t.Error("a zero store does something")
	}
}
