package control

import (
	"bytes"
	"math"
	"slices"
	"testing"

	"jalousie/api"
	"jalousie/box"
	"jalousie/hash"
	"jalousie/keys"
)

func boxes() []*box.Box {
	return []*box.Box{box.New(false, api.Hash{}), box.New(true, api.Hash{7})}
}

func TestKeyAndBack(t *testing.T) {
	seed := api.Hash{5}
	want := seed
	for epoch := api.MaxEpoch; epoch >= 0; epoch-- {
		got, e := Key(seed, epoch)
		if e != api.OK || got != want {
			t.Fatal(epoch, e)
		}
		if back, e := Back(got, epoch, 0); e != api.OK || back != must(Key(seed, 0)) {
			t.Fatal(epoch, e)
		}
		want = hash.Derive(want, "jalousie back")
	}
	if got, e := Back(seed, 7, 7); e != api.OK || got != seed {
		t.Error(e)
	}
	if got, e := Back(seed, 7, 5); e != api.OK || got != hash.Derive(hash.Derive(seed, "jalousie back"), "jalousie back") {
		t.Error(e)
	}
	for _, epoch := range []int{-1, 256, math.MaxInt, math.MinInt} {
		if k, e := Key(seed, epoch); e != api.ErrArg || k != (api.Hash{}) {
			t.Error(epoch, e)
		}
	}
	for _, c := range [][2]int{{5, 6}, {5, -1}, {256, 5}, {-1, -1}, {math.MaxInt, 0}, {0, math.MaxInt}, {math.MinInt, math.MaxInt}, {255, math.MinInt}} {
		if k, e := Back(seed, c[0], c[1]); e != api.ErrArg || k != (api.Hash{}) {
			t.Error(c, e)
		}
	}
}

func must(k api.Hash, _ api.Errno) api.Hash { return k }

func slot() []byte { return bytes.Repeat([]byte{9}, 48) }

// with is a control with slots for some members.
func with(op, member int, cut uint64, hand []byte, slots ...int) Control {
	c := Control{Op: op, Member: member, Cut: cut, Hand: hand}
	for _, i := range slots {
		c.Slots[i-1] = slot()
	}
	return c
}

func same(a, b Control) bool {
	return a.Op == b.Op && a.Member == b.Member && a.Cut == b.Cut && bytes.Equal(a.Hand, b.Hand) &&
		slices.EqualFunc(a.Slots[:], b.Slots[:], bytes.Equal)
}

func TestFormedBytesAndParse(t *testing.T) {
	for i, c := range []Control{
		with(1, 0, 0, nil, 1), with(1, 0, 0, nil, 6), with(2, 1, 0, nil, 1, 2), with(2, 6, 0, nil, 1, 2, 3, 4, 5, 6),
		with(3, 2, 0, nil, 1), with(3, 2, api.MaxSeq, nil, 1), with(4, 0, 0, nil, 3), with(5, 4, 0, slot()), with(4, 0, 0, []byte{}, 3),
	} {
		b, e := Bytes(c)
		if !Formed(c) || e != api.OK {
			t.Fatal(i, e)
		}
		got, e := Parse(b)
		if e != api.OK || !same(got, c) {
			t.Error(i, e)
		}
		for n := range b {
			if d, e := Parse(b[:n]); e != api.ErrForm || !same(d, Control{}) {
				t.Error(i, n, e)
			}
		}
		if _, e := Parse(append(b, 0)); e != api.ErrForm {
			t.Error(i, "one byte more", e)
		}
	}
}

func TestWhatIsntFormed(t *testing.T) {
	short := with(4, 0, 0, nil, 1)
	short.Slots[2] = make([]byte, 47)
	long := with(4, 0, 0, nil, 1)
	long.Slots[0] = make([]byte, 49)
	for i, c := range []Control{
		{}, with(0, 0, 0, nil, 1), with(6, 0, 0, nil, 1), with(-1, 0, 0, nil, 1),
		with(1, 1, 0, nil, 1), with(4, 1, 0, nil, 1), with(2, 0, 0, nil, 1), with(2, 7, 0, nil, 1), with(3, -1, 0, nil, 1), with(3, 0, 0, nil, 1),
		with(1, 0, 1, nil, 1), with(2, 1, 1, nil, 1), with(4, 0, 1, nil, 1), with(3, 1, api.MaxSeq+1, nil, 1), with(5, 1, 1, slot()),
		with(1, 0, 0, nil), with(2, 1, 0, nil), with(3, 1, 0, nil), with(4, 0, 0, nil),
		with(1, 0, 0, slot(), 1), with(3, 1, 0, slot(), 1), with(4, 0, 0, []byte{1}, 1),
		with(5, 1, 0, nil), with(5, 0, 0, slot()), with(5, 7, 0, slot()), with(5, 1, 0, slot(), 1), with(5, 1, 0, make([]byte, 47)), with(5, 1, 0, make([]byte, 49)),
		short, long,
	} {
		if Formed(c) {
			t.Error(i)
		}
		if b, e := Bytes(c); e != api.ErrArg || len(b) != 0 {
			t.Error(i, e)
		}
	}
}

func TestHowControlsArePacked(t *testing.T) {
	b, _ := Bytes(with(3, 2, 300, nil, 1))
	want := slices.Concat([]byte{3, 2, 172, 2, 48}, slot(), make([]byte, 6))
	if !bytes.Equal(b, want) {
		t.Error(b)
	}
	b, _ = Bytes(with(5, 2, 0, slot()))
	want = slices.Concat([]byte{5, 2, 0, 0, 0, 0, 0, 0, 0, 48}, slot())
	if !bytes.Equal(b, want) {
		t.Error(b)
	}
	for i := range want {
		c := bytes.Clone(want)
		c[i] ^= 128
		if d, e := Parse(c); e == api.OK && i < 10 || e != api.OK && !same(d, Control{}) {
			t.Error(i, e)
		}
	}
}

func TestSlotsAreEachMembers(t *testing.T) {
	for _, x := range boxes() {
		secret, key := api.Hash{1}, api.Hash{2}
		members := [api.MaxMembers]bool{true, false, true, true}
		c := with(4, 0, 0, nil)
		c.Slots = Slots(x, secret, 3, members, 9, key)
		for i, is := range members {
			got, e := Mine(x, secret, 3, i+1, 9, c)
			if is && (e != api.OK || got != key || len(c.Slots[i]) != 48) {
				t.Error(i, e)
			}
			if !is && (e != api.ErrNone || got != (api.Hash{}) || len(c.Slots[i]) != 0) {
				t.Error(i, e)
			}
		}
		for _, member := range []int{0, -1, 7, math.MaxInt, math.MinInt} {
			if k, e := Mine(x, secret, 3, member, 9, c); e != api.ErrNone || k != (api.Hash{}) {
				t.Error(member, e)
			}
		}
		if k, e := keys.Unslot(x, keys.Pair(secret, 3, 4), 4, 9, c.Slots[3]); e != api.OK || k != key {
			t.Error(e)
		}
		for i, e := range []api.Errno{
			no(Mine(x, secret, 2, 1, 9, c)), no(Mine(x, secret, 3, 1, 8, c)), no(Mine(x, api.Hash{}, 3, 1, 9, c)),
		} {
			if e != api.ErrSeal {
				t.Error(i, e)
			}
		}
		c.Slots[0] = []byte{1}
		if k, e := Mine(x, secret, 3, 1, 9, c); e != api.ErrForm || k != (api.Hash{}) {
			t.Error(e)
		}
	}
}

func no(_ api.Hash, e api.Errno) api.Errno { return e }

func TestSlotsAreSealedInTheMembersOrder(t *testing.T) {
	x, y := boxes()[1], boxes()[1]
	slots := Slots(x, api.Hash{1}, 1, [api.MaxMembers]bool{true, true, false, true}, 3, api.Hash{2})
	for _, i := range []int{0, 1, 3} {
		if !bytes.Equal(slots[i], keys.Slot(y, api.Hash{}, 0, 0, api.Hash{})) {
			t.Error(i)
		}
	}
}

func TestHandAndTaken(t *testing.T) {
	for _, x := range boxes() {
		secret, seed := api.Hash{1}, api.Hash{2}
		c := with(5, 4, 0, Hand(x, secret, 2, 4, seed))
		if k, e := Taken(x, secret, 2, 4, c); e != api.OK || k != seed || !Formed(c) {
			t.Error(e)
		}
		if k, e := keys.Unslot(x, keys.Pair(secret, 2, 4), 4, 0, c.Hand); e != api.OK || k != seed {
			t.Error(e)
		}
		for i, e := range []api.Errno{
			no(Taken(x, secret, 2, 3, c)), no(Taken(x, secret, 3, 4, c)), no(Taken(x, api.Hash{}, 2, 4, c)), no(Taken(x, secret, -5, 99, c)),
		} {
			if e != api.ErrSeal {
				t.Error(i, e)
			}
		}
		if k, e := Taken(x, secret, 2, 4, Control{}); e != api.ErrNone || k != (api.Hash{}) {
			t.Error(e)
		}
		if k, e := Taken(x, secret, 2, 4, Control{Hand: []byte{1}}); e != api.ErrForm || k != (api.Hash{}) {
			t.Error(e)
		}
	}
}
