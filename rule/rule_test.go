package rule_test

import (
	"regexp"
	"strings"
	"testing"

	"rewrite/api"
	"rewrite/rule"
)

func read(t *testing.T, s string) []rule.Rule {
	t.Helper()
	rules, line, e := rule.Read(s)
	if line != 0 || e != api.OK {
		t.Fatalf("Read(%q) = .., %d, %d", s, line, e)
	}
	return rules
}

func TestSides(t *testing.T) {
	rules := read(t, "a>\nabcd>ABcd/a\ndd>D/\n")
	want := [][2]string{{"a", ""}, {"abcd", "ABcd"}, {"dd", "D"}}
	if len(rules) != len(want) {
		t.Fatalf("%d rules", len(rules))
	}
	for i, r := range rules {
		if r.From != want[i][0] || r.To != want[i][1] {
			t.Errorf("rule %d is %q>%q", i, r.From, r.To)
		}
	}
}

func TestRefused(t *testing.T) {
	for _, c := range []struct {
		s    string
		line int
		e    api.Errno
	}{
		{"", 0, api.ErrRules}, {"a>b\na>b\na>b\na>b\na>b\n", 0, api.ErrRules}, {"a>b\na>b\na>b\na>b\na>b", 5, api.ErrLine}, {"a>b\n\na\n", 2, api.ErrLine}, {"a", 1, api.ErrLine},
	} {
		if rules, line, e := rule.Read(c.s); rules != nil || line != c.line || e != c.e {
			t.Errorf("Read(%q) = %v, %d, %d, want %d, %d", c.s, rules, line, e, c.line, c.e)
		}
	}
}

// contexts: all contexts of at most n bytes out of some, as Go's regexp has them too.
func contexts(n int, of string) []string {
	all := []string{""}
	from := 0
	for range n {
		to := len(all)
		for _, c := range all[from:to] {
			for i := range len(of) {
				all = append(all, c+of[i:i+1])
			}
		}
		from = to
	}
	return all
}

func words(n int) []string { return contexts(n, "abcd") }

// isHit: whether a word begins with a match, by the steps of the net.
func isHit(n rule.Net, w string) bool {
	state := n.Start()
	for i := range len(w) {
		state = n.Step(state, int(w[i]-'a'))
		if state < 0 || state >= n.States() {
			return false
		}
	}
	return n.IsHit(state)
}

func compare(t *testing.T, from string, context string, texts []string) {
	t.Helper()
	// Go has no stars behind stars.
	pattern := regexp.MustCompile(`\*+`).ReplaceAllString(context, "*")
	want := regexp.MustCompile("^" + from + "(?:" + pattern + ")")
	rules := read(t, from+">A/"+context+"\n")
	for _, w := range texts {
		if isHit(rules[0].Match, w) != want.MatchString(w) {
			t.Errorf("of %q>A/%q: %q is a hit: %v", from, context, w, !want.MatchString(w))
			return
		}
	}
}

func TestMatches(t *testing.T) {
	texts := words(6)
	for _, context := range []string{
		"", "|", "a", "ab", "a|b", "a|", "|a", "a*", "a**", "a*b", "a*b*c", "(ab)*c", "(a|b)*c", "(a*b*)*c", "(a|)b", "()", "()*", "()|a", "(|)a", "((a)*b)*c", "(((a)*b)*c)*d", "((a|b)(c|d))*a",
		".", ".*", "..", ".*a", "[a]", "[ab]", "[abcd]", "[^a]", "[^ab]", "[^abc]", "[^abcd]", "[^abcd]*", "[^abcd]*a", "[^abcd]|a", "[bd]*c", "[^bd]*d", "a.c", "a(b|cd)", "(a|ab)(c|bcd)", "(a*)*b", "(a*|b)*c", "abc|.d|d*a",
	} {
		compare(t, "a", context, texts)
		compare(t, "aba", context, texts)
	}
}

func TestMatchesOfAllShortContexts(t *testing.T) {
	texts := words(5)
	count := 0
	for _, context := range contexts(4, "ab.()|*") {
		if _, _, e := rule.Read("a>A/" + context + "\n"); e != api.OK {
			continue
		}
		count++
		compare(t, "a", context, texts)
	}
	if count < 500 {
		t.Errorf("only %d contexts", count)
	}
}

func TestMatchWithoutContext(t *testing.T) {
	for _, from := range []string{"a", "ab", "aaaa", "abcd"} {
		for _, r := range read(t, from+">A\n"+from+">A/\n") {
			for _, w := range words(5) {
				if isHit(r.Match, w) != strings.HasPrefix(w, from) {
					t.Errorf("of %q: %q is a hit: %v", from, w, isHit(r.Match, w))
				}
			}
		}
	}
}

func TestStepsOfWhatIsNone(t *testing.T) {
	n := read(t, "a>b/c*d\n")[0].Match
	for _, state := range []int{-1 << 63, -1, n.States(), 1<<63 - 1} {
		for l := range 4 {
			n.Step(state, l)
		}
	}
	for _, l := range []int{-1 << 63, -1, 4, 1<<63 - 1} {
		if n.Step(n.Start(), l) != n.Start() {
			t.Errorf("a step by letter %d", l)
		}
	}
	var none rule.Net
	if none.IsHit(none.Start()) {
		t.Errorf("a net of nothing is hit")
	}
}
