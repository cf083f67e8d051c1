package pack

import (
	"bytes"
	"math"
	"math/rand"
	"testing"

	"jalousie/api"
)

func packed(t *testing.T, f func(o *Out)) []byte {
	t.Helper()
	var o Out
	f(&o)
	b, e := o.End()
	if e != api.OK {
		t.Fatal(e)
	}
	return b
}

func TestNumbersArePackedInSevens(t *testing.T) {
	cases := []struct {
		x    uint64
		want []byte
	}{
		{0, []byte{0}}, {1, []byte{1}}, {127, []byte{127}}, {128, []byte{128, 1}}, {300, []byte{172, 2}},
		{16383, []byte{255, 127}}, {16384, []byte{128, 128, 1}},
		{1 << 63, []byte{128, 128, 128, 128, 128, 128, 128, 128, 128, 1}},
		{math.MaxUint64, []byte{255, 255, 255, 255, 255, 255, 255, 255, 255, 1}},
	}
	for _, c := range cases {
		got := packed(t, func(o *Out) { o.Num(c.x) })
		if !bytes.Equal(got, c.want) {
			t.Errorf("%d: %v", c.x, got)
		}
		in := Read(got)
		if x := in.Num(math.MaxUint64); x != c.x || !in.Over() || in.Bad() {
			t.Errorf("%d is taken as %d", c.x, x)
		}
		in = Read(got)
		if x := in.Num(c.x); x != c.x || !in.Over() {
			t.Errorf("%d at most: %d", c.x, x)
		}
		if c.x == 0 {
			continue
		}
		in = Read(got)
		if x := in.Num(c.x - 1); x != 0 || !in.Bad() || in.Left() != len(got) {
			t.Errorf("%d above most: %d", c.x, x)
		}
	}
}

func TestNumbersThatAreNone(t *testing.T) {
	for _, b := range [][]byte{
		{}, {128}, {255, 255}, {128, 0}, {172, 2 + 128, 0},
		{128, 128, 128, 128, 128, 128, 128, 128, 128, 2},
		{128, 128, 128, 128, 128, 128, 128, 128, 128, 128, 1},
		{255, 255, 255, 255, 255, 255, 255, 255, 255, 127},
		{255, 255, 255, 255, 255, 255, 255, 255, 255, 255, 255, 255},
	} {
		in := Read(b)
		if x := in.Num(math.MaxUint64); x != 0 || !in.Bad() || in.Over() || in.Left() != len(b) {
			t.Errorf("%v: %d, bad %t, left %d", b, x, in.Bad(), in.Left())
		}
	}
}

func TestAllPartsStandOneBehindTheOther(t *testing.T) {
	b := packed(t, func(o *Out) {
		o.Num(300)
		o.Text([]byte("ab"))
		o.Raw([]byte{9, 8})
		o.Flag(true)
		o.Flag(false)
		o.Text(nil)
		o.Raw(nil)
	})
	if want := []byte{172, 2, 2, 'a', 'b', 9, 8, 1, 0, 0}; !bytes.Equal(b, want) {
		t.Fatal(b)
	}
	in := Read(b)
	if in.Left() != 10 || in.Over() {
		t.Error(in.Left())
	}
	if x := in.Num(300); x != 300 || in.Left() != 8 {
		t.Error(x)
	}
	if s := in.Text(2); string(s) != "ab" {
		t.Error(s)
	}
	if s := in.Raw(2); !bytes.Equal(s, []byte{9, 8}) {
		t.Error(s)
	}
	if !in.Flag() || in.Flag() {
		t.Error("flags")
	}
	if s := in.Text(0); len(s) != 0 || in.Bad() {
		t.Error(s)
	}
	if s := in.Raw(0); len(s) != 0 || !in.Over() || in.Left() != 0 {
		t.Error(s)
	}
}

func TestTextsThatAreNone(t *testing.T) {
	long := packed(t, func(o *Out) { o.Text(make([]byte, api.MaxBytes)) })
	if s := Read(long).Text(1 << 40); len(s) != api.MaxBytes {
		t.Error(len(s))
	}
	longer := packed(t, func(o *Out) {
		o.Num(api.MaxBytes + 1)
		o.Raw(make([]byte, api.MaxBytes+1))
	})
	cases := []struct {
		b    []byte
		most int
	}{
		{nil, 5}, {[]byte{0}, -1}, {[]byte{1, 'a'}, 0}, {[]byte{2, 'a'}, 5}, {[]byte{3, 'a', 'b', 'c'}, 2},
		{[]byte{128, 0}, 5}, {[]byte{1}, 5}, {[]byte{255, 255, 255, 255, 255, 255, 255, 255, 255, 1, 1}, math.MaxInt},
		{long, api.MaxBytes - 1}, {longer, math.MaxInt}, {[]byte{0}, math.MinInt},
	}
	for _, c := range cases {
		in := Read(c.b)
		if s := in.Text(c.most); len(s) != 0 || !in.Bad() || in.Left() != len(c.b) || in.Over() {
			t.Errorf("%d bytes, most %d: %v", len(c.b), c.most, s)
		}
	}
}

func TestRawAndFlagsThatAreNone(t *testing.T) {
	for _, n := range []int{-1, 4, math.MaxInt, math.MinInt} {
		in := Read([]byte{1, 2, 3})
		if s := in.Raw(n); len(s) != 0 || !in.Bad() || in.Left() != 3 {
			t.Error(n, s)
		}
	}
	for _, b := range [][]byte{nil, {2}, {255, 1}} {
		in := Read(b)
		if in.Flag() || !in.Bad() || in.Left() != len(b) {
			t.Error(b)
		}
	}
}

func TestBehindWhatIsBadNothingIsTaken(t *testing.T) {
	in := Read([]byte{5, 1, 1, 0})
	in.Num(4)
	if in.Num(9) != 0 || len(in.Text(9)) != 0 || len(in.Raw(1)) != 0 || len(in.Raw(0)) != 0 || in.Flag() {
		t.Error("something was taken")
	}
	if !in.Bad() || in.Left() != 4 || in.Over() {
		t.Error(in.Left())
	}
	in = Read([]byte{9})
	in.Raw(1)
	in.Raw(1)
	if in.Over() || in.Left() != 0 {
		t.Error("bad, and over")
	}
}

func TestEndIsTooLong(t *testing.T) {
	var o Out
	o.Text(make([]byte, api.MaxBytes+1))
	if b, e := o.End(); e != api.ErrLong || len(b) != 0 {
		t.Error(len(b), e)
	}
	o.Num(1)
	if _, e := o.End(); e != api.ErrLong {
		t.Error("it isn't too long any more")
	}
	o = Out{}
	o.Raw(make([]byte, 4*api.MaxBytes))
	if b, e := o.End(); e != api.OK || len(b) != 4*api.MaxBytes {
		t.Error(len(b), e)
	}
	o.Flag(true)
	if b, e := o.End(); e != api.ErrLong || len(b) != 0 {
		t.Error(len(b), e)
	}
	o = Out{}
	o.Raw(make([]byte, 4*api.MaxBytes+1))
	if _, e := o.End(); e != api.ErrLong {
		t.Error(e)
	}
}

func TestEndGoesOn(t *testing.T) {
	var o Out
	if b, e := o.End(); e != api.OK || len(b) != 0 {
		t.Error(b, e)
	}
	o.Num(1)
	first, _ := o.End()
	o.Num(2)
	copied := o
	copied.Num(3)
	o.Num(4)
	second, _ := o.End()
	third, _ := copied.End()
	if !bytes.Equal(first, []byte{1}) || !bytes.Equal(second, []byte{1, 2, 4}) || !bytes.Equal(third, []byte{1, 2, 3}) {
		t.Error(first, second, third)
	}
	clear(second)
	if b, _ := o.End(); !bytes.Equal(b, []byte{1, 2, 4}) {
		t.Error("what was answered hangs on the Out")
	}
}

func TestReadKeepsNothingOfItsArgument(t *testing.T) {
	b := []byte{2, 'a', 'b'}
	in := Read(b)
	b[1] = 'x'
	if s := in.Text(9); string(s) != "ab" {
		t.Error(string(s))
	}
}

// Whatever bytes are taken to the end are packed just so.
func TestWhatIsTakenWasPackedJustSo(t *testing.T) {
	random := rand.New(rand.NewSource(5))
	for range 20000 {
		b := make([]byte, random.Intn(14))
		for i := range b {
			b[i] = []byte{0, 1, 2, 3, 127, 128, 129, 255}[random.Intn(8)]
		}
		in := Read(b)
		var o Out
		for in.Left() > 0 && !in.Bad() {
			switch random.Intn(4) {
			case 0:
				if x := in.Num(math.MaxUint64); !in.Bad() {
					o.Num(x)
				}
			case 1:
				if s := in.Text(5); !in.Bad() {
					o.Text(s)
				}
			case 2:
				if s := in.Raw(1); !in.Bad() {
					o.Raw(s)
				}
			default:
				if f := in.Flag(); !in.Bad() {
					o.Flag(f)
				}
			}
		}
		got, e := o.End()
		if e != api.OK || !bytes.Equal(got, b[:len(b)-in.Left()]) {
			t.Fatalf("%v: %v, %d", b, got, e)
		}
	}
}
