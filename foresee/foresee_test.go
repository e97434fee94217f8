package foresee_test

import (
	"strings"
	"testing"

	"rewrite/api"
	"rewrite/foresee"
	"rewrite/rule"
)

func view(t *testing.T, s string) foresee.View {
	t.Helper()
	rules, _, e := rule.Read(s)
	if e != api.OK {
		t.Fatalf("Read(%q) = %d", s, e)
	}
	v, ok := foresee.New(rules)
	if !ok {
		t.Fatalf("New of %q = false", s)
	}
	return v
}

func TestRun(t *testing.T) {
	for _, c := range []struct{ s, w, said string }{
		{"a>B\n", "", ""}, {"a>B\n", "abca", "BbcB"},
		{"a>b/c\n", "acaa", "bcaa"}, {"a>b/c\n", "a", "a"},
		// The longest, and of those the first; what was taken is not looked at again.
		{"a>D\nab>C\n", "abaab", "CDC"}, {"ab>C\nab>D\n", "ab", "C"}, {"ab>C/d\nab>D\n", "ababd", "DCd"}, {"aa>b\nab>a\n", "aaab", "ba"}, {"a>B/c\nab>\n", "abac", "Bc"},
		{"aaaa>d\naaa>c\naa>b\na>\n", "aaaaaaa", "dc"}, {"aaaa>d\naaa>c\naa>b\na>\n", "aaaaa", "d"},
		{"a>B/b*c\n", "abbbcabbb", "Bbbbcabbb"}, {"a>B/.*d\n", "aaadaa", "BBBdaa"},
	} {
		v := view(t, c.s)
		if said, toCome := v.Run(c.w, 0, 0); said != c.said || toCome != 0 {
			t.Errorf("of %q: %q becomes %q, and %d letters to come, want %q", c.s, c.w, said, toCome, c.said)
		}
	}
}

// TestRunInPieces: a word is rewritten in two pieces, of which the first is told the kind of the second.
func TestRunInPieces(t *testing.T) {
	for _, s := range []string{"a>B/b*c\n", "abcd>AB/d*a\nbc>C\n", "aaaa>d\naaa>c\naa>b\na>\n", "aba>\nb>BB/.a\n"} {
		v := view(t, s)
		for _, w := range []string{"abbcabb", "abcdabcddabcd", "aaaaaaabaaaa", "ababaabababab"} {
			whole, _ := v.Run(w, 0, 0)
			for i := range len(w) + 1 {
				k := 0
				for j := len(w) - 1; j >= i; j-- {
					k = v.Kinds.Ahead[k][w[j]-'a']
				}
				before, toCome := v.Run(w[:i], k, 0)
				behind, end := v.Run(w[i:], 0, toCome)
				if before+behind != whole || end != 0 {
					t.Errorf("of %q: %q becomes %q, %q, want %q", s, w, before, behind, whole)
				}
			}
		}
	}
}

func TestBig(t *testing.T) {
	great := "aaaa>B/" + strings.Repeat("a", 14) + "\n"
	for _, s := range []string{great + great + great + "a>b\n", great + "bbbb>B/bb\n", "a>A/.*a..........b\n"} {
		rules, _, _ := rule.Read(s)
		if v, ok := foresee.New(rules); ok || v.Kinds.Ahead != nil {
			t.Errorf("New of %q = %v, %v", s, v, ok)
		}
	}
	view(t, great+great+great)
	view(t, great+"bbbb>B/b\n")
}

func TestStepsOfWhatIsNone(t *testing.T) {
	v := view(t, "ab>B/c\n")
	for _, n := range []int{-1 << 63, -1, len(v.Kinds.Ahead), 24, 1<<63 - 1} {
		if said, toCome := v.Step(n, 0, 0); said != "" || toCome != 0 {
			t.Errorf("Step of kind %d = %q, %d", n, said, toCome)
		}
		if said, _ := v.Run("ab", n, 0); said != "" {
			t.Errorf("Run ahead of kind %d = %q", n, said)
		}
	}
	for _, l := range []int{-1 << 63, -1, 4, 1<<63 - 1} {
		if said, toCome := v.Step(0, 0, l); said != "" || toCome != 0 {
			t.Errorf("Step by letter %d = %q, %d", l, said, toCome)
		}
	}
	if said, toCome := (foresee.View{}).Run("ab", 0, 0); said != "" || toCome != 0 {
		t.Errorf("Run of no view = %q, %d", said, toCome)
	}
}
