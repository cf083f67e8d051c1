package disk

import (
	"bytes"
	"math"
	"testing"

	"jalousie/api"
)

// full is a sector of one byte.
func full(b byte) []byte {
	return bytes.Repeat([]byte{b}, api.Sector)
}

func write(t *testing.T, d *Disk, i int, b byte) {
	t.Helper()
	if e := d.Write(i, full(b)); e != api.OK {
		t.Fatal(e)
	}
}

func read(t *testing.T, d *Disk, i int) []byte {
	t.Helper()
	b, e := d.Read(i)
	if e != api.OK {
		t.Fatal(e)
	}
	return b
}

func TestNewHasNoughts(t *testing.T) {
	for n, want := range map[int]int{math.MinInt: 0, -1: 0, 0: 0, 1: 1, 7: 7, 16384: 16384, 16385: 16384, math.MaxInt: 16384} {
		d := New(n)
		if d.Sectors() != want || d.Loose() != 0 || d.Gone() {
			t.Errorf("%d: %d", n, d.Sectors())
		}
	}
	d := New(2)
	if !bytes.Equal(read(t, d, 0), full(0)) || !bytes.Equal(read(t, d, 1), full(0)) {
		t.Error("a new sector isn't noughts")
	}
}

func TestReadAndWrite(t *testing.T) {
	d := New(3)
	b := full(5)
	if e := d.Write(1, b); e != api.OK {
		t.Fatal(e)
	}
	b[0] = 9
	got := read(t, d, 1)
	if !bytes.Equal(got, full(5)) {
		t.Error("the disk keeps what was handed in")
	}
	got[1] = 9
	if !bytes.Equal(read(t, d, 1), full(5)) {
		t.Error("the disk hands itself out")
	}
	for _, i := range []int{-1, 3, math.MaxInt, math.MinInt} {
		if b, e := d.Read(i); e != api.ErrArg || len(b) != 0 {
			t.Error(i, e)
		}
		if e := d.Write(i, full(1)); e != api.ErrArg {
			t.Error(i, e)
		}
	}
	for _, n := range []int{0, 63, 65, 128} {
		if e := d.Write(1, make([]byte, n)); e != api.ErrArg {
			t.Error(n, e)
		}
	}
	if !bytes.Equal(read(t, d, 1), full(5)) || d.Loose() != 1 {
		t.Error("what was refused has changed something")
	}
}

func TestLooseTillSync(t *testing.T) {
	d := New(4)
	write(t, d, 2, 1)
	write(t, d, 2, 1)
	write(t, d, 0, 0)
	if d.Loose() != 2 {
		t.Error(d.Loose())
	}
	if e := d.Sync(); e != api.OK || d.Loose() != 0 {
		t.Error(e, d.Loose())
	}
	d.Crash(nil)
	if !bytes.Equal(read(t, d, 2), full(1)) {
		t.Error("what was synced is gone")
	}
}

func TestFuseLetsThePowerGo(t *testing.T) {
	d := New(3)
	d.Fuse(3)
	write(t, d, 0, 1)
	if e := d.Write(9, full(1)); e != api.ErrArg {
		t.Error(e)
	}
	if e := d.Sync(); e != api.OK {
		t.Error(e)
	}
	write(t, d, 1, 2)
	if d.Gone() || d.Loose() != 1 {
		t.Error("the power went too early")
	}
	read(t, d, 1)
	if e := d.Write(2, full(3)); e != api.ErrLost || !d.Gone() {
		t.Error(e)
	}
	if e := d.Sync(); e != api.ErrLost || d.Loose() != 1 {
		t.Error(e, d.Loose())
	}
	if b, e := d.Read(0); e != api.ErrLost || len(b) != 0 {
		t.Error(e)
	}
	if _, e := d.Read(3); e != api.ErrArg {
		t.Error("an argument is asked first", e)
	}
	if e := d.Write(0, nil); e != api.ErrArg {
		t.Error("an argument is asked first", e)
	}
	d.Fuse(-1)
	d.Fuse(5)
	if e := d.Sync(); e != api.ErrLost {
		t.Error("a power that is gone stays so", e)
	}
	d.Crash(nil)
	if d.Gone() || d.Loose() != 0 || !bytes.Equal(read(t, d, 1), full(0)) || !bytes.Equal(read(t, d, 0), full(1)) || !bytes.Equal(read(t, d, 2), full(0)) {
		t.Error("behind the crash")
	}
	for range 10 {
		write(t, d, 1, 7)
	}
}

func TestFuseOfNoneAndBelow(t *testing.T) {
	d := New(1)
	d.Fuse(0)
	if d.Gone() {
		t.Error("the power is gone ahead of a change")
	}
	if e := d.Sync(); e != api.ErrLost || !d.Gone() {
		t.Error(e)
	}
	d = New(1)
	d.Fuse(1)
	d.Fuse(-5)
	for range 5 {
		write(t, d, 0, 1)
	}
	d.Fuse(2)
	d.Fuse(1)
	write(t, d, 0, 1)
	if e := d.Sync(); e != api.ErrLost {
		t.Error("the last fuse counts", e)
	}
}

func TestCrashTearsLooseSectors(t *testing.T) {
	for number := range 256 {
		d := New(2)
		write(t, d, 0, 1)
		d.Sync()
		write(t, d, 0, 2)
		write(t, d, 0, 3)
		d.Crash([]byte{byte(number)})
		want := full(1)
		for i := range want {
			if number < 128 && i < number || number >= 128 && i >= 64-(number-128) {
				want[i] = 3
			}
		}
		if got := read(t, d, 0); !bytes.Equal(got, want) || d.Loose() != 0 {
			t.Fatalf("%d: %v", number, got)
		}
	}
}

func TestCrashTakesLooseSectorsRising(t *testing.T) {
	d := New(9)
	for _, i := range []int{7, 2, 5, 3, 8} {
		write(t, d, i, 9)
	}
	fate := []byte{64, 0, 1}
	d.Crash(fate)
	for i, n := range map[int]int{2: 64, 3: 0, 5: 1, 7: 64, 8: 0, 0: 0} {
		if got := bytes.Count(read(t, d, i), []byte{9}); got != n {
			t.Errorf("sector %d: %d bytes stay, not %d", i, got, n)
		}
	}
	if !bytes.Equal(fate, []byte{64, 0, 1}) {
		t.Error("an argument was changed")
	}
	d.Crash([]byte{0})
	if got := bytes.Count(read(t, d, 2), []byte{9}); got != 64 {
		t.Error("a second crash tears what isn't loose")
	}
}
