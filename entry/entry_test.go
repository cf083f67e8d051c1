package entry

import (
	"bytes"
	"math"
	"slices"
	"strings"
	"testing"

	"jalousie/api"
	"jalousie/box"
	"jalousie/hash"
	"jalousie/keys"
	"jalousie/pad"
	"jalousie/seal"
)

func boxes() []*box.Box {
	return []*box.Box{box.New(false, api.Hash{}), box.New(true, api.Hash{7})}
}

// plain is a formed header of an item.
func plain() Header {
	return Header{
		Writer: 2, Seq: 3, Prev: api.Hash{9}, Epoch: 4, Time: 5, Item: api.Token{6},
		Tokens: []api.Token{{1}, {2}}, Knows: [api.MaxMembers]uint64{7, 2, 0, 0, 0, 8},
		Sum: api.Hash{10}, Size: 80, Code: api.Hash{11},
	}
}

func changed(f func(h *Header)) Header {
	h := plain()
	f(&h)
	return h
}

func manyTokens(n int) []api.Token {
	var l []api.Token
	for i := range n {
		l = append(l, api.Token{byte(i + 1)})
	}
	return l
}

// formed are headers at the edges of what is formed.
func formed() []Header {
	control := func(h *Header) { h.Control, h.Item, h.Tokens = true, api.Token{}, nil }
	return []Header{
		plain(),
		changed(control),
		changed(func(h *Header) { h.Seq, h.Prev, h.Knows[1] = 1, api.Hash{}, 0 }),
		changed(func(h *Header) { h.Prev = api.Hash{} }),
		changed(func(h *Header) { h.Seq, h.Knows[1] = api.MaxSeq, api.MaxSeq-1 }),
		changed(func(h *Header) { h.Writer, h.Knows[0], h.Knows[1] = 1, 2, api.MaxSeq }),
		changed(func(h *Header) { h.Writer, h.Knows[5] = 6, 2 }),
		changed(func(h *Header) { h.Epoch, h.Time = 0, 0 }),
		changed(func(h *Header) { h.Epoch, h.Time = api.MaxEpoch, 1<<40 }),
		changed(func(h *Header) { h.Tokens = nil }),
		changed(func(h *Header) { h.Tokens = manyTokens(api.MaxTags) }),
		changed(func(h *Header) { h.Item = api.Token{} }),
		changed(func(h *Header) { h.Size = 2064 }),
		changed(func(h *Header) { h.Sum, h.Code = api.Hash{}, api.Hash{} }),
	}
}

func unformed() []Header {
	return []Header{
		{},
		changed(func(h *Header) { h.Writer = 0 }),
		changed(func(h *Header) { h.Writer = 7 }),
		changed(func(h *Header) { h.Writer = -1 }),
		changed(func(h *Header) { h.Writer = math.MaxInt }),
		changed(func(h *Header) { h.Seq, h.Knows[1] = 0, math.MaxUint64 }),
		changed(func(h *Header) { h.Seq, h.Knows[1] = api.MaxSeq+1, api.MaxSeq }),
		changed(func(h *Header) { h.Seq, h.Knows[1] = 1, 0 }),
		changed(func(h *Header) { h.Epoch = -1 }),
		changed(func(h *Header) { h.Epoch = 256 }),
		changed(func(h *Header) { h.Time = 1<<40 + 1 }),
		changed(func(h *Header) { h.Control, h.Tokens = true, nil }),
		changed(func(h *Header) { h.Control, h.Item = true, api.Token{} }),
		changed(func(h *Header) { h.Tokens = manyTokens(9) }),
		changed(func(h *Header) { h.Tokens = []api.Token{{1}, {1}} }),
		changed(func(h *Header) { h.Tokens = []api.Token{{2}, {1}} }),
		changed(func(h *Header) { h.Knows[0] = api.MaxSeq + 1 }),
		changed(func(h *Header) { h.Knows[1] = 3 }),
		changed(func(h *Header) { h.Knows[1] = 1 }),
		changed(func(h *Header) { h.Size = 0 }),
		changed(func(h *Header) { h.Size = 64 }),
		changed(func(h *Header) { h.Size = 16 }),
		changed(func(h *Header) { h.Size = 81 }),
		changed(func(h *Header) { h.Size = 4112 }),
		changed(func(h *Header) { h.Size = math.MinInt }),
	}
}

func TestFormedAndBytesAndParse(t *testing.T) {
	for i, h := range formed() {
		b := Bytes(h)
		if !Formed(h) || len(b) == 0 {
			t.Error(i, "isn't formed")
		}
		got, e := Parse(b)
		if e != api.OK || !Same(got, h) || Hash(h) != hash.Sum(b) {
			t.Error(i, e, got)
		}
	}
	for i, h := range unformed() {
		if Formed(h) || len(Bytes(h)) != 0 || Hash(h) != hash.Sum() {
			t.Error(i, "is formed")
		}
	}
}

// The bytes, put together apart from layer 5.
func TestBytesStandInTheChaptersOrder(t *testing.T) {
	h := changed(func(h *Header) { h.Time, h.Size = 300, 2064 })
	want := slices.Concat(
		[]byte{2, 3}, h.Prev[:], []byte{4, 0, 172, 2}, h.Item[:], []byte{2}, h.Tokens[0][:], h.Tokens[1][:],
		[]byte{7, 2, 0, 0, 0, 8}, h.Sum[:], []byte{0x90, 0x10}, h.Code[:],
	)
	if got := Bytes(h); !bytes.Equal(got, want) {
		t.Errorf("%v\n%v", got, want)
	}
	short := changed(func(h *Header) { h.Tokens = nil })
	if n := len(Bytes(short)); n != 125 {
		t.Error(n)
	}
}

func TestParseRefuses(t *testing.T) {
	b := Bytes(plain())
	for n := range b {
		if h, e := Parse(b[:n]); e != api.ErrForm || !Same(h, Header{}) {
			t.Error(n, e)
		}
	}
	if _, e := Parse(append(bytes.Clone(b), 0)); e != api.ErrForm {
		t.Error("one byte more", e)
	}
	for i := range b {
		for _, turn := range []byte{1, 128, 255} {
			c := bytes.Clone(b)
			c[i] ^= turn
			h, e := Parse(c)
			if e == api.OK && !bytes.Equal(Bytes(h), c) || e != api.OK && (e != api.ErrForm || !Same(h, Header{})) {
				t.Fatal(i, turn, e)
			}
		}
	}
	long := slices.Concat([]byte{130, 0}, b[1:])
	if _, e := Parse(long); e != api.ErrForm {
		t.Error("a number that is packed longer", e)
	}
}

func TestSame(t *testing.T) {
	turns := []func(h *Header){
		func(h *Header) { h.Writer++ }, func(h *Header) { h.Seq++ }, func(h *Header) { h.Prev[31]++ },
		func(h *Header) { h.Epoch++ }, func(h *Header) { h.Control = true }, func(h *Header) { h.Time++ },
		func(h *Header) { h.Item[15]++ }, func(h *Header) { h.Tokens = h.Tokens[:1] },
		func(h *Header) { h.Tokens = []api.Token{{1}, {3}} }, func(h *Header) { h.Knows[5]++ },
		func(h *Header) { h.Sum[31]++ }, func(h *Header) { h.Size++ }, func(h *Header) { h.Code[31]++ },
	}
	for i, turn := range turns {
		if Same(plain(), changed(turn)) || Same(changed(turn), plain()) || !Same(changed(turn), changed(turn)) {
			t.Error(i)
		}
	}
	if !Same(Header{Tokens: []api.Token{}}, Header{}) {
		t.Error("no tokens and no tokens")
	}
}

func TestWhatIsMadeIsRightAndOpened(t *testing.T) {
	for _, x := range boxes() {
		s := keys.Of(api.Hash{3})
		for _, n := range []int{0, 1, 63, 64, 500, 2047} {
			text := bytes.Repeat([]byte("t"), n)
			h, body, e := Make(x, s, plain(), text)
			bucket, _ := pad.Bucket(n)
			if e != api.OK || h.Size != bucket+16 || len(body) != h.Size || h.Sum != hash.Sum(body) || !Right(x, s, h) {
				t.Fatal(n, e)
			}
			if want := changed(func(w *Header) { w.Sum, w.Size, w.Code = h.Sum, h.Size, h.Code }); !Same(h, want) {
				t.Error(n, "something else was changed")
			}
			if got, e := Open(x, s, h, body); e != api.OK || !bytes.Equal(got, text) {
				t.Error(n, e)
			}
		}
	}
}

func TestMakeKeepsNothing(t *testing.T) {
	h := plain()
	made, _, _ := Make(boxes()[0], keys.Set{}, h, nil)
	h.Tokens[0] = api.Token{99}
	if made.Tokens[0] != (api.Token{1}) {
		t.Error("the tokens are shared")
	}
}

func TestABodyIsSealedFirstThenTheCoreCoded(t *testing.T) {
	x, s := box.New(true, api.Hash{7}), keys.Of(api.Hash{3})
	h, body, _ := Make(x, s, plain(), []byte("text"))
	y := box.New(true, api.Hash{7})
	padded, _ := pad.Pad([]byte("text"))
	if !bytes.Equal(body, y.Seal(s.Body, seal.Nonce(2, 3), padded)) || x.Draws() != 2 {
		t.Error("the body")
	}
	b := Bytes(h)
	if h.Code != y.Code(s.Code, b[:len(b)-32]) {
		t.Error("the code")
	}
}

func TestMakeRefuses(t *testing.T) {
	for _, x := range boxes() {
		bad := changed(func(h *Header) { h.Writer = 0 })
		for _, c := range []struct {
			h    Header
			n    int
			want api.Errno
		}{{plain(), 2048, api.ErrLong}, {bad, 2048, api.ErrLong}, {bad, 5, api.ErrArg}} {
			if h, body, e := Make(x, keys.Set{}, c.h, make([]byte, c.n)); e != c.want || !Same(h, Header{}) || len(body) != 0 {
				t.Error(c.n, e)
			}
		}
		if x.Draws() != 0 {
			t.Error("what is refused draws")
		}
	}
	if _, _, e := Make(boxes()[0], keys.Set{}, changed(func(h *Header) { h.Size = -5 }), nil); e != api.OK {
		t.Error("the size that comes is asked", e)
	}
}

func TestRightRefuses(t *testing.T) {
	for _, x := range boxes() {
		s := keys.Of(api.Hash{3})
		h, _, _ := Make(x, s, plain(), nil)
		if Right(x, keys.Of(api.Hash{4}), h) {
			t.Error("other keys")
		}
		other := h
		other.Time++
		if Right(x, s, other) {
			t.Error("another time")
		}
		other = h
		other.Code[0]++
		if Right(x, s, other) {
			t.Error("another code")
		}
		other = h
		other.Size = 5
		other.Code = x.Code(s.Code, core(other))
		if Right(x, s, other) {
			t.Error("what isn't formed")
		}
	}
}

func TestOpenRefuses(t *testing.T) {
	for _, x := range boxes() {
		s := keys.Of(api.Hash{3})
		h, body, _ := Make(x, s, plain(), []byte("text"))
		other := bytes.Clone(body)
		other[0]++
		if b, e := Open(x, s, h, other); e != api.ErrForm || len(b) != 0 {
			t.Error("another sum", e)
		}
		for _, b := range [][]byte{nil, body[:79], append(bytes.Clone(body), 0)} {
			if _, e := Open(x, s, h, b); e != api.ErrForm {
				t.Error("another size", e)
			}
		}
		sized := h
		sized.Size = 144
		if _, e := Open(x, s, sized, body); e != api.ErrForm {
			t.Error("another size told", e)
		}
		if b, e := Open(x, keys.Of(api.Hash{4}), h, body); e != api.ErrSeal || len(b) != 0 {
			t.Error("other keys", e)
		}
		moved := changed(func(m *Header) { m.Writer, m.Sum, m.Size = 3, h.Sum, h.Size })
		if _, e := Open(x, s, moved, body); e != api.ErrSeal {
			t.Error("another writer", e)
		}
		raw := x.Seal(s.Body, seal.Nonce(2, 3), make([]byte, 64))
		unpadded := changed(func(u *Header) { u.Sum = hash.Sum(raw) })
		if b, e := Open(x, s, unpadded, raw); e != api.ErrForm || len(b) != 0 {
			t.Error("what isn't padded", e)
		}
		short := changed(func(u *Header) { u.Sum, u.Size = hash.Sum([]byte("ab")), 2 })
		if _, e := Open(x, s, short, []byte("ab")); e != api.ErrForm {
			t.Error("too short", e)
		}
	}
}

func TestChanges(t *testing.T) {
	long := strings.Repeat("x", api.MaxName)
	good := []Change{
		{Op: 1, Name: "a"}, {Op: 2, Name: "a"}, {Op: 3, Name: "a"},
		{Op: 1, Name: long, Tags: strings.Split("abcdefgh", ""), Value: strings.Repeat("\xff", api.MaxValue)},
		{Op: 3, Name: "\x00", Tags: []string{"a", long}},
	}
	for i, c := range good {
		b, e := PackChange(c)
		if !FormedChange(c) || e != api.OK {
			t.Error(i, e)
		}
		got, e := ParseChange(b)
		if e != api.OK || got.Op != c.Op || got.Name != c.Name || got.Value != c.Value || !slices.Equal(got.Tags, c.Tags) {
			t.Error(i, got, e)
		}
		for n := range b {
			if _, e := ParseChange(b[:n]); e != api.ErrForm {
				t.Error(i, n, e)
			}
		}
		if _, e := ParseChange(append(b, 0)); e != api.ErrForm {
			t.Error(i, "one byte more", e)
		}
	}
	bad := []Change{
		{}, {Op: 0, Name: "a"}, {Op: 4, Name: "a"}, {Op: -1, Name: "a"}, {Op: 1}, {Op: 1, Name: long + "x"},
		{Op: 1, Name: "a", Tags: []string{""}}, {Op: 1, Name: "a", Tags: []string{"b", "a"}}, {Op: 1, Name: "a", Tags: []string{"b", "b"}},
		{Op: 1, Name: "a", Tags: strings.Split("abcdefghi", "")}, {Op: 1, Name: "a", Tags: []string{long + "x"}},
		{Op: 1, Name: "a", Value: strings.Repeat("x", api.MaxValue+1)},
		{Op: 2, Name: "a", Value: "x"}, {Op: 3, Name: "a", Value: "x"}, {Op: 2, Name: "a", Tags: []string{"b"}},
	}
	for i, c := range bad {
		if b, e := PackChange(c); FormedChange(c) || e != api.ErrArg || len(b) != 0 {
			t.Error(i, e)
		}
	}
}

func TestHowChangesArePacked(t *testing.T) {
	b, _ := PackChange(Change{Op: 1, Name: "ab", Tags: []string{"c", "de"}, Value: "f"})
	if want := []byte{1, 2, 'a', 'b', 2, 1, 'c', 2, 'd', 'e', 1, 'f'}; !bytes.Equal(b, want) {
		t.Error(b)
	}
	for _, b := range [][]byte{
		nil, {0, 1, 'a', 0, 0}, {4, 1, 'a', 0, 0}, {1, 0, 0, 0}, {2, 1, 'a', 0, 1, 'x'}, {2, 1, 'a', 1, 1, 'b', 0},
		{1, 1, 'a', 2, 1, 'b', 1, 'b', 0}, {1, 1, 'a', 9, 0}, {129, 0, 1, 'a', 0, 0},
	} {
		if c, e := ParseChange(b); e != api.ErrForm || c.Op != 0 || c.Name != "" || len(c.Tags) != 0 || c.Value != "" {
			t.Error(b, e)
		}
	}
}
