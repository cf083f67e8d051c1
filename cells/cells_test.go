package cells

import (
	"bytes"
	"math"
	"testing"

	"jalousie/api"
	"jalousie/disk"
)

func open(t *testing.T, d *disk.Disk, from, sectors int) *Log {
	t.Helper()
	l, e := Open(d, from, sectors)
	if e != api.OK {
		t.Fatal(e)
	}
	return l
}

func note(b byte) [16]byte {
	return [16]byte{b, 15: b}
}

func isAt(l *Log, serial uint64, b string, n [16]byte) bool {
	return l.Serial() == serial && string(l.Bytes()) == b && l.Note() == n
}

// rawHead is a head's sector, put together apart from the package.
func rawHead(serial, count uint64, n [16]byte) []byte {
	var b []byte
	for _, x := range []uint64{serial, count} {
		for i := 7; i >= 0; i-- {
			b = append(b, byte(x>>(8*i)))
		}
	}
	b = append(b, n[:]...)
	return append(b, b...)
}

func TestOpenRefusesPlaces(t *testing.T) {
	d := disk.New(10)
	cases := []struct{ from, sectors int }{
		{0, 2}, {0, 0}, {0, -1}, {-1, 3}, {0, 11}, {8, 3}, {10, 3}, {11, 3}, {math.MaxInt, 3}, {3, math.MaxInt},
		{math.MaxInt, math.MaxInt}, {math.MinInt, 3}, {0, math.MinInt},
	}
	for _, c := range cases {
		if l, e := Open(d, c.from, c.sectors); e != api.ErrArg || l != nil {
			t.Error(c, e)
		}
	}
	d.Fuse(0)
	d.Sync()
	if l, e := Open(d, 0, 3); e != api.ErrLost || l != nil {
		t.Error(e)
	}
	if _, e := Open(d, 0, 2); e != api.ErrArg {
		t.Error(e)
	}
}

func TestANewLogHasNothing(t *testing.T) {
	d := disk.New(10)
	l := open(t, d, 7, 3)
	if !isAt(l, 0, "", [16]byte{}) || l.Room() != 64 || l.Over() {
		t.Error(l.Serial(), l.Bytes(), l.Room())
	}
	if open(t, d, 0, 10).Room() != 8*64 {
		t.Error("room")
	}
}

func TestAppendAndClear(t *testing.T) {
	d := disk.New(6)
	l := open(t, d, 1, 5)
	text := []byte("abc")
	if e := l.Append(text, note(1)); e != api.OK || !isAt(l, 1, "abc", note(1)) || l.Room() != 189 {
		t.Error(e)
	}
	text[0] = 'x'
	got := l.Bytes()
	got[1] = 'x'
	if !isAt(l, 1, "abc", note(1)) || d.Loose() != 0 {
		t.Error("what is handed over is kept")
	}
	long := bytes.Repeat([]byte("d"), 189)
	if e := l.Append(append(long, 'e'), note(2)); e != api.ErrFull || !isAt(l, 1, "abc", note(1)) {
		t.Error(e)
	}
	if e := l.Append(long, note(2)); e != api.OK || !isAt(l, 2, "abc"+string(long), note(2)) || l.Room() != 0 {
		t.Error(e)
	}
	if e := l.Append(nil, note(3)); e != api.OK || !isAt(l, 3, "abc"+string(long), note(3)) {
		t.Error(e)
	}
	if !isAt(open(t, d, 1, 5), 3, "abc"+string(long), note(3)) {
		t.Error("opened again")
	}
	if e := l.Clear(); e != api.OK || !isAt(l, 4, "", note(3)) || l.Room() != 192 {
		t.Error(e)
	}
	if !isAt(open(t, d, 1, 5), 4, "", note(3)) {
		t.Error("opened again")
	}
	if e := l.Append([]byte("new"), note(4)); e != api.OK || !isAt(open(t, d, 1, 5), 5, "new", note(4)) {
		t.Error(e)
	}
	if e := l.Append([]byte("!"), note(5)); e != api.OK || !isAt(l, 6, "new!", note(5)) || !isAt(open(t, d, 1, 5), 6, "new!", note(5)) {
		t.Error("a single byte", e)
	}
	if b, _ := d.Read(0); !bytes.Equal(b, make([]byte, 64)) {
		t.Error("a sector of others was written")
	}
}

func TestWhereTheStateStands(t *testing.T) {
	d := disk.New(6)
	l := open(t, d, 1, 5)
	l.Append([]byte("abc"), note(7))
	if b, _ := d.Read(2); !bytes.Equal(b, rawHead(1, 3, note(7))) {
		t.Error("an odd serial", b)
	}
	if b, _ := d.Read(3); string(b[:3]) != "abc" {
		t.Error("the room", b)
	}
	l.Append(bytes.Repeat([]byte("d"), 70), note(8))
	if b, _ := d.Read(1); !bytes.Equal(b, rawHead(2, 73, note(8))) {
		t.Error("an even serial", b)
	}
	if b, _ := d.Read(4); string(b[:9]) != "ddddddddd" {
		t.Error("the room goes on", b)
	}
}

func TestHeadsThatCountAsNone(t *testing.T) {
	odd := rawHead(7, 2, note(1))
	torn := rawHead(9, 2, note(1))
	torn[63]++
	cases := []struct {
		name          string
		first, second []byte
		serial        uint64
		bytes         string
	}{
		{"the greater", rawHead(6, 1, note(1)), odd, 7, "ab"},
		{"the greater is first", rawHead(8, 1, note(1)), odd, 8, "a"},
		{"halves differ", rawHead(6, 1, note(1)), torn, 6, "a"},
		{"too many bytes", rawHead(6, 65, note(1)), rawHead(5, 64, note(1)), 5, "ab" + string(make([]byte, 62))},
		{"far too many bytes", rawHead(6, math.MaxUint64, note(1)), odd, 7, "ab"},
		{"an odd serial in the first", rawHead(11, 1, note(1)), odd, 7, "ab"},
		{"an even serial in the second", rawHead(4, 1, note(1)), rawHead(8, 2, note(1)), 4, "a"},
		{"the serial 0 with bytes", rawHead(0, 2, note(1)), make([]byte, 64), 0, "ab"},
		{"none", torn, torn, 0, ""},
		{"the greatest", rawHead(math.MaxUint64-1, 1, note(1)), rawHead(math.MaxUint64, 2, note(1)), math.MaxUint64, "ab"},
	}
	for _, c := range cases {
		d := disk.New(3)
		d.Write(0, c.first)
		d.Write(1, c.second)
		d.Write(2, append([]byte("ab"), make([]byte, 62)...))
		l := open(t, d, 0, 3)
		if l.Serial() != c.serial || string(l.Bytes()) != c.bytes {
			t.Errorf("%s: %d, %q", c.name, l.Serial(), l.Bytes())
		}
	}
}

func TestSpentSerials(t *testing.T) {
	d := disk.New(3)
	d.Write(0, rawHead(1<<62-2, 1, note(1)))
	l := open(t, d, 0, 3)
	if e := l.Append([]byte("b"), note(2)); e != api.OK {
		t.Error(e)
	}
	if e := l.Clear(); e != api.OK || l.Serial() != 1<<62 {
		t.Error(e)
	}
	if e := l.Append(make([]byte, 65), note(2)); e != api.ErrSpent {
		t.Error(e)
	}
	if e := l.Clear(); e != api.ErrSpent || !isAt(l, 1<<62, "", note(2)) || l.Over() {
		t.Error(e)
	}
}

// fates are some ways in which sectors can be torn.
func fates() [][]byte {
	return [][]byte{
		nil, {64}, {192}, {1}, {129}, {7}, {16}, {20}, {31}, {32}, {33}, {48}, {63}, {135}, {144}, {160}, {161}, {191},
		{64, 0}, {0, 64}, {64, 40}, {10, 150}, {64, 64, 0},
	}
}

// Each change is cut off at each call of the disk, and torn in each way: what is there is the state ahead, or behind.
func TestACutOffChangeIsDoneOrNot(t *testing.T) {
	changes := map[string]func(*Log) api.Errno{
		"append": func(l *Log) api.Errno { return l.Append(bytes.Repeat([]byte("z"), 100), note(9)) },
		"little": func(l *Log) api.Errno { return l.Append([]byte("y"), note(9)) },
		"none":   func(l *Log) api.Errno { return l.Append(nil, note(9)) },
		"clear":  (*Log).Clear,
	}
	for name, change := range changes {
		for _, ahead := range []int{0, 1, 2, 3} {
			for fuse := range 7 {
				for _, fate := range fates() {
					cutOff(t, name, change, ahead, fuse, fate)
				}
			}
		}
	}
}

func cutOff(t *testing.T, name string, change func(*Log) api.Errno, ahead, fuse int, fate []byte) {
	t.Helper()
	d := disk.New(6)
	l := open(t, d, 0, 6)
	for i := range ahead {
		l.Append(bytes.Repeat([]byte{byte('a' + i)}, 40), note(byte(i)))
	}
	old := open(t, d, 0, 6)
	other := disk.New(6)
	copied := open(t, other, 0, 6)
	for i := range ahead {
		copied.Append(bytes.Repeat([]byte{byte('a' + i)}, 40), note(byte(i)))
	}
	change(copied)
	d.Fuse(fuse)
	e := change(l)
	if l.Over() != (e == api.ErrLost) || e != api.OK && e != api.ErrLost {
		t.Fatalf("%s, fuse %d: %d", name, fuse, e)
	}
	if e == api.ErrLost {
		if !isAt(l, old.Serial(), string(old.Bytes()), old.Note()) || l.Append(nil, note(1)) != api.ErrLost || l.Clear() != api.ErrLost {
			t.Fatalf("%s, fuse %d: a log that is over", name, fuse)
		}
	}
	d.Crash(fate)
	again := open(t, d, 0, 6)
	before := isAt(again, old.Serial(), string(old.Bytes()), old.Note())
	behind := isAt(again, copied.Serial(), string(copied.Bytes()), copied.Note())
	if !before && !behind || e == api.OK && !behind {
		t.Fatalf("%s behind %d, fuse %d, fate %v: %d %q", name, ahead, fuse, fate, again.Serial(), again.Bytes())
	}
	if e := again.Append([]byte("on"), note(5)); e != api.OK {
		t.Fatal("it doesn't go on", e)
	}
}

func TestAZeroLogIsOver(t *testing.T) {
	var l Log
	if !l.Over() || l.Append(nil, note(1)) != api.ErrLost || l.Clear() != api.ErrLost || l.Room() != 0 {
		t.Error("a zero log does something")
	}
}
