package own

import (
	"testing"

	"jalousie/api"
	"jalousie/entry"
)

func TestCopiesShareNothing(t *testing.T) {
	h := entry.Header{Writer: 3, Tokens: []api.Token{{1}}}
	g := Header(h)
	g.Tokens[0] = api.Token{2}
	if h.Tokens[0] != (api.Token{1}) || g.Writer != 3 {
		t.Error(h, g)
	}
	c := entry.Change{Name: "a", Tags: []string{"b"}}
	d := Change(c)
	d.Tags[0] = "c"
	if c.Tags[0] != "b" || d.Name != "a" {
		t.Error(c, d)
	}
}
