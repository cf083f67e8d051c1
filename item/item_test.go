package item

import (
	"math/rand"
	"slices"
	"strings"
	"testing"

	"jalousie/api"
	"jalousie/entry"
)

// header is of an entry of the item of a token.
func header(token byte, writer int, seq, time uint64) entry.Header {
	h := entry.Header{Writer: writer, Seq: seq, Time: time, Item: api.Token{token}, Tokens: []api.Token{{1}}, Size: 80}
	h.Knows[writer-1] = seq - 1
	if seq > 1 {
		h.Prev = api.Hash{1}
	}
	return h
}

func put(h entry.Header, value string, tags ...string) Row {
	return Row{Header: h, Known: true, Change: entry.Change{Op: 1, Name: "n", Tags: tags, Value: value}}
}

func deletion(h entry.Header) Row {
	return Row{Header: h, Known: true, Change: entry.Change{Op: 2, Name: "n"}}
}

func tag(h entry.Header, tags ...string) Row {
	return Row{Header: h, Known: true, Change: entry.Change{Op: 3, Name: "n", Tags: tags}}
}

func TestLater(t *testing.T) {
	h := header(1, 2, 3, 4)
	for _, g := range []entry.Header{header(1, 2, 3, 3), header(1, 1, 3, 4), header(1, 2, 2, 4), header(1, 6, 9, 3), header(1, 1, 9, 4)} {
		if !Later(h, g) || Later(g, h) {
			t.Error(g)
		}
	}
	if Later(h, h) {
		t.Error("later than itself")
	}
}

func TestFormed(t *testing.T) {
	h := header(1, 2, 3, 4)
	control := h
	control.Control, control.Item, control.Tokens = true, api.Token{}, nil
	unformed := h
	unformed.Size = 1
	for i, r := range []Row{put(h, "v"), deletion(h), tag(h, "a"), {Header: h}, {Header: h, Change: entry.Change{Tags: []string{}}}} {
		if !Formed(r) {
			t.Error(i)
		}
	}
	for i, r := range []Row{
		{}, {Header: unformed}, put(unformed, "v"), {Header: control}, put(control, "v"), {Header: h, Known: true},
		put(h, strings.Repeat("x", 513)), put(h, "v", "b", "a"), {Header: h, Change: entry.Change{Op: 1}}, {Header: h, Change: entry.Change{Name: "n"}},
		{Header: h, Change: entry.Change{Tags: []string{"a"}}}, {Header: h, Change: entry.Change{Value: "x"}}, {Header: h, Change: put(h, "v").Change},
	} {
		if Formed(r) {
			t.Error(i)
		}
	}
}

func TestAnItemComesOfItsRows(t *testing.T) {
	a, b, c, d := header(5, 1, 1, 1), header(5, 1, 2, 2), header(5, 2, 1, 3), header(5, 2, 2, 4)
	token := api.Token{5}
	cases := []struct {
		name string
		rows []Row
		want Item
	}{
		{"a put", []Row{put(a, "v", "x")}, Item{Newest: a, Known: true, Alive: true, Name: "n", Tags: []string{"x"}, Value: "v"}},
		{"put, delete, put", []Row{put(a, "v", "x"), deletion(b), put(c, "w")}, Item{Newest: c, Known: true, Alive: true, Name: "n", Value: "w"}},
		{"put, delete", []Row{put(a, "v", "x"), deletion(b)}, Item{Newest: b, Known: true, Name: "n"}},
		{"put, tag", []Row{put(a, "v", "x"), tag(b, "y")}, Item{Newest: b, Known: true, Alive: true, Name: "n", Tags: []string{"y"}, Value: "v"}},
		{"delete, tag", []Row{deletion(a), tag(b, "y")}, Item{Newest: b, Known: true, Name: "n"}},
		{"a tag", []Row{tag(a, "y")}, Item{Newest: a, Known: true, Name: "n"}},
		{"none known", []Row{{Header: a}, {Header: b}}, Item{Newest: b}},
		{"the newest isn't known", []Row{put(a, "v", "x"), {Header: b}}, Item{Newest: b, Alive: true, Name: "n", Tags: []string{"x"}, Value: "v"}},
		{"an older one isn't known", []Row{{Header: a}, put(b, "v")}, Item{Newest: b, Known: true, Alive: true, Name: "n", Value: "v"}},
		{"tag, put, tag, none", []Row{tag(a, "p"), put(b, "v", "q"), tag(c, "r"), {Header: d}}, Item{Newest: d, Alive: true, Name: "n", Tags: []string{"r"}, Value: "v"}},
		{"a name of the latest", []Row{put(a, "v"), {Header: b, Known: true, Change: entry.Change{Op: 3, Name: "m"}}}, Item{Newest: b, Known: true, Alive: true, Name: "m", Value: "v"}},
	}
	for _, c := range cases {
		c.want.Token = token
		for range len(c.rows) {
			got := Fold(c.rows)
			if len(got) != 1 || !Same(got[0], c.want) {
				t.Errorf("%s: %v", c.name, got)
			}
			if one, ok := Of(c.rows, token); !ok || !Same(one, c.want) {
				t.Errorf("%s: %v", c.name, one)
			}
			c.rows = append(c.rows[1:], c.rows[0])
		}
	}
}

func TestFoldOfManyTokens(t *testing.T) {
	unformed := put(header(3, 4, 1, 99), "z")
	unformed.Change.Op = 9
	rows := []Row{
		put(header(9, 1, 1, 1), "nine"), put(header(2, 1, 2, 2), "two"), unformed, put(header(200, 2, 1, 1), "last"),
		put(header(2, 1, 1, 50), "the first of a writer and number counts"), put(header(3, 4, 1, 4), "formed"), {Header: header(3, 4, 1, 5)},
	}
	got := Fold(rows)
	var values []string
	for _, i := range got {
		values = append(values, i.Value)
	}
	if want := []string{"two", "formed", "nine", "last"}; !slices.Equal(values, want) {
		t.Error(values)
	}
	if i, ok := Of(rows, api.Token{7}); ok || !Same(i, Item{}) {
		t.Error(i)
	}
	if len(Fold(nil)) != 0 {
		t.Error("items of nothing")
	}
	if rows[0].Change.Value != "nine" || rows[1].Change.Value != "two" {
		t.Error("an argument was turned round")
	}
}

func TestItemsShareNothing(t *testing.T) {
	rows := []Row{put(header(1, 1, 1, 1), "v", "x")}
	i := Fold(rows)[0]
	i.Tags[0], i.Newest.Tokens[0] = "y", api.Token{9}
	if rows[0].Change.Tags[0] != "x" || rows[0].Header.Tokens[0] != (api.Token{1}) {
		t.Error("memory is shared")
	}
}

func TestSame(t *testing.T) {
	one := func() Item {
		return Item{Token: api.Token{1}, Newest: header(1, 1, 1, 1), Known: true, Alive: true, Name: "n", Tags: []string{"a"}, Value: "v"}
	}
	for k, turn := range []func(i *Item){
		func(i *Item) { i.Token[0]++ }, func(i *Item) { i.Newest.Time++ }, func(i *Item) { i.Known = false }, func(i *Item) { i.Alive = false },
		func(i *Item) { i.Name = "m" }, func(i *Item) { i.Tags = nil }, func(i *Item) { i.Tags[0] = "b" }, func(i *Item) { i.Value = "" },
	} {
		i := one()
		turn(&i)
		if Same(i, one()) || !Same(i, i) {
			t.Error(k)
		}
	}
	if !Same(Item{Tags: []string{}}, Item{}) || !Same(one(), one()) {
		t.Error("what is the same isn't")
	}
}

func TestHoweverRowsAreTurnedRoundItemsAreTheSame(t *testing.T) {
	random := rand.New(rand.NewSource(4))
	for range 200 {
		var rows []Row
		for k := range 25 {
			h := header(byte(random.Intn(4)), k%5+1, uint64(k/5+1), uint64(random.Intn(5)))
			switch random.Intn(4) {
			case 0:
				rows = append(rows, Row{Header: h})
			case 1:
				rows = append(rows, deletion(h))
			case 2:
				rows = append(rows, tag(h, string(rune('a'+k))))
			default:
				rows = append(rows, put(h, string(rune('a'+k)), string(rune('a'+k))))
			}
		}
		want := Fold(rows)
		random.Shuffle(len(rows), func(i, j int) { rows[i], rows[j] = rows[j], rows[i] })
		if !slices.EqualFunc(Fold(rows), want, Same) {
			t.Fatal("items differ")
		}
	}
}
