package letter_test

import (
	"strings"
	"testing"

	"rewrite/letter"
)

func TestEveryByte(t *testing.T) {
	for c := range 256 {
		at := strings.IndexByte("abcd", byte(c))
		if letter.Is(byte(c)) != (at >= 0) {
			t.Errorf("Is(%d) = %v", c, at < 0)
		}
		if letter.Number(byte(c)) != max(at, 0) {
			t.Errorf("Number(%d) = %d", c, letter.Number(byte(c)))
		}
		said := strings.IndexByte("abcdABCD", byte(c)) >= 0
		if letter.IsSaid(byte(c)) != said {
			t.Errorf("IsSaid(%d) = %v", c, !said)
		}
	}
}

func TestIsWord(t *testing.T) {
	for _, w := range []string{"", "a", "abcd", strings.Repeat("dcba", 1000)} {
		if !letter.IsWord(w) {
			t.Errorf("IsWord(%.20q) = false", w)
		}
	}
	for _, w := range []string{"A", "e", "abcdA", "eabcd", "ab cd", "ab\ncd", "é"} {
		if letter.IsWord(w) {
			t.Errorf("IsWord(%q) = true", w)
		}
	}
}

func TestCommon(t *testing.T) {
	for _, c := range []struct {
		v, w string
		n    int
	}{{"", "", 0}, {"a", "", 0}, {"a", "b", 0}, {"a", "A", 0}, {"a", "a", 1}, {"ab", "a", 1}, {"abc", "abd", 2}, {"abca", "bbca", 0}, {"AB", "ABCD", 2}} {
		if n := letter.Common(c.v, c.w); n != c.n {
			t.Errorf("Common(%q, %q) = %d, want %d", c.v, c.w, n, c.n)
		}
		if n := letter.Common(c.w, c.v); n != c.n {
			t.Errorf("Common(%q, %q) = %d, want %d", c.w, c.v, n, c.n)
		}
	}
}
