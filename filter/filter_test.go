package filter

import (
	"fmt"
	"math/rand"
	"slices"
	"strings"
	"testing"

	"jalousie/api"
	"jalousie/box"
	"jalousie/entry"
	"jalousie/item"
	"jalousie/keys"
)

func tags(s string) Filter { return Filter{Tags: strings.Fields(s)} }

var all = Filter{All: true}

func TestFormed(t *testing.T) {
	for _, f := range []Filter{{}, all, {All: true, Tags: []string{}}, tags("a"), tags("a b c d e f g h"), tags(strings.Repeat("x", 24))} {
		if !Formed(f) {
			t.Error(f)
		}
	}
	for _, f := range []Filter{{All: true, Tags: []string{"a"}}, tags("a b c d e f g h i"), tags("b a"), tags("a a"), {Tags: []string{""}}, tags(strings.Repeat("x", 25))} {
		if Formed(f) {
			t.Error(f)
		}
	}
}

func TestFormedWish(t *testing.T) {
	var many []api.Token
	for i := range 9 {
		many = append(many, api.Token{byte(i)})
	}
	for _, w := range []Wish{{}, {All: true}, {All: true, Tokens: []api.Token{}}, {Tokens: many[:8]}, {Tokens: many[3:4]}} {
		if !FormedWish(w) {
			t.Error(w)
		}
	}
	for _, w := range []Wish{{All: true, Tokens: many[:1]}, {Tokens: many}, {Tokens: []api.Token{{2}, {1}}}, {Tokens: []api.Token{{2}, {2}}}} {
		if FormedWish(w) {
			t.Error(w)
		}
	}
}

func TestOf(t *testing.T) {
	s := keys.Of(api.Hash{1})
	for _, x := range []*box.Box{box.New(false, api.Hash{}), box.New(true, api.Hash{})} {
		w := Of(x, s, tags("a b c"))
		if w.All || !slices.Equal(w.Tokens, keys.Tokens(x, s, []string{"c", "b", "a"})) || !FormedWish(w) {
			t.Error(w)
		}
		if w := Of(x, s, all); !w.All || len(w.Tokens) != 0 {
			t.Error(w)
		}
		draws := x.Draws()
		for _, f := range []Filter{{}, tags("b a"), {All: true, Tags: []string{"z"}}} {
			if w := Of(x, s, f); w.All || len(w.Tokens) != 0 || x.Draws() != draws {
				t.Error(f, w)
			}
		}
	}
}

// header is of an entry of an item, with some tokens.
func header(writer int, seq uint64, tokens ...byte) entry.Header {
	h := entry.Header{Writer: writer, Seq: seq, Time: seq, Item: api.Token{byte(writer)}, Size: 80}
	h.Knows[writer-1] = seq - 1
	if seq > 1 {
		h.Prev = api.Hash{1}
	}
	for _, b := range tokens {
		h.Tokens = append(h.Tokens, api.Token{b})
	}
	return h
}

func TestMeets(t *testing.T) {
	h := header(1, 1, 2, 4)
	control := entry.Header{Control: true}
	for _, w := range []Wish{{}, {All: true}, {Tokens: []api.Token{{9}}}} {
		if !Meets(w, control) {
			t.Error(w)
		}
	}
	for _, w := range []Wish{{All: true}, {Tokens: []api.Token{{2}}}, {Tokens: []api.Token{{1}, {4}}}} {
		if !Meets(w, h) {
			t.Error(w)
		}
	}
	for _, w := range []Wish{{}, {Tokens: []api.Token{{1}}}, {Tokens: []api.Token{{3}, {5}}}} {
		if Meets(w, h) {
			t.Error(w)
		}
	}
	if !Meets(Wish{All: true}, header(1, 1)) || Meets(Wish{Tokens: []api.Token{{}}}, header(1, 1)) {
		t.Error("an entry without tags")
	}
}

func TestShows(t *testing.T) {
	i := item.Item{Alive: true, Known: true, Tags: []string{"b", "c"}}
	for _, f := range []Filter{all, tags("a c"), tags("b"), tags("b c")} {
		if !Shows(f, i) {
			t.Error(f)
		}
		dead, unknown := i, i
		dead.Alive, unknown.Known = false, false
		if Shows(f, dead) || Shows(f, unknown) {
			t.Error(f, "shows what is dead, or not known")
		}
	}
	for _, f := range []Filter{{}, tags("a"), tags("a d")} {
		if Shows(f, i) {
			t.Error(f)
		}
	}
	if i.Tags = nil; !Shows(all, i) || Shows(tags("a"), i) {
		t.Error("an item without tags")
	}
}

func put(h entry.Header, tags ...string) item.Row {
	return item.Row{Header: h, Known: true, Change: entry.Change{Op: 1, Name: "n", Tags: tags, Value: fmt.Sprint(h.Writer)}}
}

func TestShown(t *testing.T) {
	rows := []item.Row{
		put(header(3, 1), "a"), put(header(1, 1), "a", "b"), put(header(2, 1), "c"), put(header(4, 1), "a"), {Header: header(4, 2)},
		put(header(5, 1), "a"), {Header: header(5, 2), Known: true, Change: entry.Change{Op: 2, Name: "n"}},
	}
	for _, c := range []struct {
		f    Filter
		want string
	}{{all, "123"}, {tags("a"), "13"}, {tags("b c"), "12"}, {tags("d"), ""}, {Filter{}, ""}} {
		var got string
		for _, i := range Shown(c.f, rows) {
			got += i.Value
			if want, _ := item.Of(rows, i.Token); !item.Same(i, want) {
				t.Error(i)
			}
		}
		if got != c.want {
			t.Error(c.f, got)
		}
	}
}

func TestPending(t *testing.T) {
	unformed := header(1, 1, 2)
	unformed.Size = 1
	twice := header(2, 2, 2)
	twice.Time = 77
	rows := []item.Row{
		{Header: header(2, 2, 2)}, {Header: twice}, {Header: header(2, 1, 2)}, put(header(1, 3, 2)), {Header: header(3, 1, 5)},
		{Header: unformed}, {Header: header(1, 2, 2)}, {Header: header(4, 1, 2), Change: entry.Change{Op: 1}}, put(header(5, 1, 2)), {Header: header(5, 1, 2)},
	}
	for _, c := range []struct {
		w    Wish
		want []entry.Header
	}{
		{Wish{Tokens: []api.Token{{2}}}, []entry.Header{header(1, 2, 2), header(2, 1, 2), header(2, 2, 2), header(5, 1, 2)}},
		{Wish{All: true}, []entry.Header{header(1, 2, 2), header(2, 1, 2), header(2, 2, 2), header(3, 1, 5), header(5, 1, 2)}},
		{Wish{Tokens: []api.Token{{5}}}, []entry.Header{header(3, 1, 5)}}, {Wish{}, nil},
	} {
		got := Pending(c.w, rows)
		if !slices.EqualFunc(got, c.want, entry.Same) {
			t.Error(c.w, got)
		}
		if len(got) > 0 {
			got[0].Tokens[0] = api.Token{99}
		}
	}
	if rows[4].Header.Tokens[0] != (api.Token{5}) || rows[6].Header.Tokens[0] != (api.Token{2}) {
		t.Error("memory is shared")
	}
}

func TestWider(t *testing.T) {
	for _, c := range []struct {
		a, b         Filter
		aWide, bWide bool
	}{
		{all, all, true, true}, {all, tags("a"), true, false}, {all, Filter{}, true, false}, {tags("a b"), tags("b"), true, false},
		{tags("a"), tags("b"), false, false}, {tags("a"), tags("a"), true, true}, {Filter{}, Filter{}, true, true}, {Filter{}, tags("a"), false, true},
	} {
		if Wider(c.a, c.b) != c.aWide || Wider(c.b, c.a) != c.bWide {
			t.Error(c)
		}
	}
}

func TestAWiderFilterShowsAllThatTheOtherOneShows(t *testing.T) {
	random := rand.New(rand.NewSource(6))
	some := func() []string {
		var l []string
		for _, tag := range []string{"a", "b", "c", "d"} {
			if random.Intn(2) == 0 {
				l = append(l, tag)
			}
		}
		return l
	}
	for range 500 {
		a, b := Filter{Tags: some()}, Filter{Tags: some()}
		i := item.Item{Alive: true, Known: true, Tags: some()}
		if Wider(a, b) && Shows(b, i) && !Shows(a, i) {
			t.Fatal(a, b, i)
		}
	}
}
