package names

import (
	"strings"
	"testing"
)

func TestIs(t *testing.T) {
	for n, want := range map[int]bool{0: false, 1: true, 24: true, 25: false, 1000: false} {
		if Is(strings.Repeat("\xff", n)) != want {
			t.Error(n)
		}
	}
}

func TestAreTags(t *testing.T) {
	for _, l := range [][]string{nil, {}, {"a"}, {"a", "b"}, {"a", "aa"}, {"Z", "a"}, strings.Split("abcdefgh", "")} {
		if !AreTags(l) {
			t.Error(l)
		}
	}
	for _, l := range [][]string{{""}, {"a", "a"}, {"b", "a"}, {"a", ""}, {strings.Repeat("a", 25)}, strings.Split("abcdefghi", "")} {
		if AreTags(l) {
			t.Error(l)
		}
	}
}
