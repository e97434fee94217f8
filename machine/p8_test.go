package machine_test

import (
	"fmt"
	"math/rand"
	"strings"
	"testing"

	"rewrite/api"
	"rewrite/machine"
)

func compile(t *testing.T, s string) *machine.Machine {
	t.Helper()
	x, r, e := machine.Compile(s, 200)
	if x == nil || r != (api.Refusal{}) || e != api.OK {
		t.Fatalf("Compile(%q, 200) = %v, %v, %d", s, x, r, e)
	}
	return x
}

// said: what a machine says of a word.
func said(x *machine.Machine, w string) string {
	r := x.Start()
	o, _ := r.Feed(w)
	end, _ := r.Close()
	return o + end
}

// checkLimit: rules have a machine for a limit of as many states as it has, and none for one less.
func checkLimit(t *testing.T, s string, states int) {
	t.Helper()
	x, r, e := machine.Compile(s, states)
	if x == nil || r != (api.Refusal{}) || e != api.OK || x.States() != states {
		t.Errorf("Compile(%q, %d) = %v, %v, %d", s, states, x, r, e)
	}
	if states > 1 {
		checkRefused(t, s, states-1, api.ErrStates, 0)
		checkRefused(t, s, 1, api.ErrStates, 0)
	}
}

func TestP8Examples(t *testing.T) {
	for _, c := range []struct{ rules, text string }{
		{"a>B\n", one},
		{"a>b/c\n", two},
		{"a>aA/c\n", early},
		{"ab>C\na>D\n", longest},
		{"a>D\nab>C\n", longest},
		{"ab>C\nab>D\n", firstOf},
		{"ab>C/d\nab>D\n", three},
		{"ab>C/d\na>D\n", backward},
		{"a>B/.b\n", six},
		{"a>b/c*\n", "- b:0 b:0 c:0 d:0\n"},
		{"a>B/[^abcd]\n", "- a:0 b:0 c:0 d:0\n"},
		{"a>\nb>BB\n", dropping},
	} {
		x := compile(t, c.rules)
		if x.Text() != c.text {
			t.Errorf("of %q: %q, want %q", c.rules, x.Text(), c.text)
		}
		checkLimit(t, c.rules, strings.Count(c.text, "\n"))
	}
	r := compile(t, "a>b/c\n").Start()
	for _, c := range [][2]string{{"a", ""}, {"a", "a"}, {"c", "bc"}} {
		if o, e := r.Feed(c[0]); o != c[1] || e != api.OK {
			t.Errorf("Feed(%q) = %q, %d", c[0], o, e)
		}
	}
	if n, w := compile(t, "a>B/.b\n").MaxDelay(); n != 2 || w != "aa" {
		t.Errorf("MaxDelay = %d, %q", n, w)
	}
}

// TestP8Texts: machines worked out by hand.
func TestP8Texts(t *testing.T) {
	for _, c := range []struct{ rules, text string }{
		// What rules leave as it is.
		{"a>a\n", "- a:0 b:0 c:0 d:0\n"},
		{"abcd>abcd\n", "- a:0 b:0 c:0 d:0\n"},
		{"a>a/b*c\n", "- a:0 b:0 c:0 d:0\n"},
		// Nothing is said of a, whatever comes: only in the end is it known that d was the last.
		{"a>\nb>\nc>\nd>\n", "- -:0 -:0 -:0 -:0\n"},
		{"a>\nb>\nc>\nd>/.\n", "- -:0 -:0 -:0 -:1\nd -:0 -:0 -:0 -:1\n"},
		// A match that is known at its first letter is said there, and the rest of it in silence.
		{"ab>AB\na>AC\n", "- A:1 b:0 c:0 d:0\nC CA:1 B:0 Cc:0 Cd:0\n"},
		{"aa>A\na>A\n", "- A:1 b:0 c:0 d:0\n- -:0 b:0 c:0 d:0\n"},
		{"aaaa>A\naaa>A\naa>A\na>A\n", "- A:1 b:0 c:0 d:0\n- -:2 b:0 c:0 d:0\n- -:3 b:0 c:0 d:0\n- -:0 b:0 c:0 d:0\n"},
		{"aa>\na>b\n", "- -:1 b:0 c:0 d:0\nb -:0 bb:0 bc:0 bd:0\n"},
		// At the end of a text no letter follows.
		{"a>B/.\n", "- -:1 b:0 c:0 d:0\na B:1 Bb:0 Bc:0 Bd:0\n"},
		{"a>aB/.\n", "- a:1 b:0 c:0 d:0\n- Ba:1 Bb:0 Bc:0 Bd:0\n"},
		{"a>a/b\na>aB\n", "- a:1 b:0 c:0 d:0\nB Ba:1 b:0 Bc:0 Bd:0\n"},
		// One that stands within another, and one that hangs over the end of another.
		{"aba>C\nb>B\n", "- -:1 B:0 c:0 d:0\na a:1 -:2 ac:0 ad:0\naB C:0 aBB:0 aBc:0 aBd:0\n"},
		{"ab>A\nba>B\n", "- -:1 -:2 c:0 d:0\na a:1 A:0 ac:0 ad:0\nb B:0 b:2 bc:0 bd:0\n"},
		{"ab>A\nbc>B\n", "- -:1 -:2 c:0 d:0\na a:1 A:0 ac:0 ad:0\nb b:1 b:2 B:0 bd:0\n"},
		// A context looks at what was written, not at what is said of it.
		{"a>B/b\nb>c\n", "- -:1 c:0 c:0 d:0\na a:1 Bc:0 ac:0 ad:0\n"},
	} {
		x := compile(t, c.rules)
		if x.Text() != c.text {
			t.Errorf("of %q: %q, want %q", c.rules, x.Text(), c.text)
		}
		checkLimit(t, c.rules, strings.Count(c.text, "\n"))
		checkCompiled(t, c.rules, x, wordsTo(5))
	}
}

func TestP8Limits(t *testing.T) {
	for _, c := range []struct {
		rules  string
		states int
	}{
		{"a>B\n", 1}, {"a>B/..d\n", 22}, {"a>B/...d\n", 86}, {"a>B/..d\nb>A/..d\n", 43}, {"a>bbab/b*...b\n", 197}, {"cbb>/a|..a|.....\n", 199}, {"aaaa>A/a*...a\n", 200}, {"b>aAA\ncbb>a/b(b*...)b.*\n", 200},
	} {
		x := compile(t, c.rules)
		checkLimit(t, c.rules, c.states)
		checkCompiled(t, c.rules, x, wordsTo(5))
	}
	for _, s := range []string{"aabb>AA/(.a|a|....).\n", "a>A/..\nac>AA\nc>AA/a|..a|.....\n", "ab>AAA\na>A/()a*(..)a..\n"} {
		for _, limit := range []int{1, 2, 199, 200} {
			checkRefused(t, s, limit, api.ErrStates, 0)
		}
		// One state too many, or a few.
		if n := countStates(s, 203); n < 201 || n > 203 {
			t.Errorf("%q has %d states", s, n)
		}
	}
}

// countStates: how many states words fall into, by the document's words: of one state are those that a window of some letters does not tell apart.
func countStates(s string, most int) int {
	r := newRewriter(s)
	windows := wordsTo(4)
	windows = append(windows, "aaaaaa", "bbbbbb", "cccccc", "aaaaaaaa", "aabaa", "bbabb", "babab", "ababa", "acaca", "aabba", "abbaa", "baaba")
	seen := map[string]bool{}
	words := []string{""}
	for i := 0; i < len(words) && len(words) <= 4*most; i++ {
		row := make([]string, len(windows))
		for k, z := range windows {
			row[k] = r.of(words[i] + z)
		}
		key := fmt.Sprintf("%q", cutAll(row))
		if seen[key] {
			continue
		}
		seen[key] = true
		words = append(words, words[i]+"a", words[i]+"b", words[i]+"c", words[i]+"d")
	}
	return len(seen)
}

// cutAll: words without what is common to all of them.
func cutAll(words []string) []string {
	n := len(commonOf(words))
	var cut []string
	for _, w := range words {
		cut = append(cut, w[n:])
	}
	return cut
}

// checkCompiled: the machine says R(w), and its text is of a machine as P2 has it; there is but one such text of all that say the same.
func checkCompiled(t *testing.T, s string, x *machine.Machine, words []string) {
	t.Helper()
	y, e := machine.Load(x.Text())
	if y == nil || e != api.OK || y.Text() != x.Text() || y.States() != x.States() {
		t.Errorf("of %q: %q does not load: %d", s, x.Text(), e)
	}
	r := newRewriter(s)
	for _, w := range words {
		if o := said(x, w); o != r.of(w) {
			t.Errorf("of %q: it says %q of %q, want %q", s, o, w, r.of(w))
			return
		}
	}
}

// checkEarly: behind each word E(p) has been said, and D(p) would be said in the end, both by R of the word with all words of some letters behind.
func checkEarly(t *testing.T, s string, words []string, behind []string) {
	t.Helper()
	x := compile(t, s)
	r := newRewriter(s)
	states := map[string]int{}
	for _, p := range words {
		row := make([]string, len(behind))
		for i, z := range behind {
			row[i] = r.of(p + z)
		}
		e := commonOf(row)
		run := x.Start()
		o, _ := run.Feed(p)
		if o != e || run.Pending() != r.of(p)[len(e):] {
			t.Errorf("of %q: behind %q it has said %q, and would say %q; want %q, %q", s, p, o, run.Pending(), e, r.of(p)[len(e):])
			return
		}
		key := fmt.Sprintf("%q", cutAll(row))
		state, ok := states[key]
		if !ok {
			state = run.State()
			states[key] = state
		}
		if state != run.State() {
			t.Errorf("of %q: behind %q is state %d, but it is of one state with words of state %d", s, p, run.State(), state)
			return
		}
	}
	if len(states) != x.States() {
		t.Errorf("of %q: words fall into %d states; the machine has %d", s, len(states), x.States())
	}
}

func TestP8EarlyAndLeast(t *testing.T) {
	t.Parallel()
	for _, s := range []string{
		"a>B\n", "a>b/c\n", "a>aA/c\n", "ab>C\na>D\n", "a>D\nab>C\n", "ab>C\nab>D\n", "ab>C/d\nab>D\n", "ab>C/d\na>D\n", "a>B/.b\n", "a>b/c*\n", "a>B/[^abcd]\n", "a>\nb>BB\n",
		"a>AA/bb\nb>B/a\n", "aa>b\nab>a/.c\n", "ab>/c\nabc>D/a*\n", "a>aaa\naa>a\n", "a>/a\n", "a>a/a\naa>aa/b\nb>/aa\n", "ab>AB\na>AC\n", "ab>ABCD\nac>ABCD\nad>ABCD\na>ABC\n", "aa>A\na>A\n", "abc>A\nbc>B\nc>C\n",
		"a>B/b*b\n", "a>B/[bc]*c|[bc]*b\n", "b>\na>\nc>d/[ab]*d\n", "a>\nb>B/a*c\nc>C\n", "a>B/.*...\n", "aaa>/.\na>b\n",
	} {
		checkEarly(t, s, wordsTo(4), wordsTo(4))
	}
}

// TestP8Within: rules that stand one within another: the longest FROM, and of one length the first.
func TestP8Within(t *testing.T) {
	t.Parallel()
	for _, s := range []string{
		"a>A\naa>B\naaa>C\naaaa>D\n", "aaaa>D\naaa>C\naa>B\na>A\n", "aa>B/b\na>A\naaa>C/c\n", "a>A\na>B\n", "a>A/b\na>B/.\na>C\n", "ab>A/b\nab>B/.\nab>C\na>D\n", "abcd>\nabc>A\nab>B\nbcd>C\n", "b>B\nabc>\nbcd>D\ncd>A\n", "a>\naa>/b\naa>a/a\n", "aa>A/[^abcd]\na>B\n",
	} {
		checkCompiled(t, s, compile(t, s), wordsTo(7))
		checkEarly(t, s, wordsTo(5), wordsTo(4))
	}
	if x, y := compile(t, "a>A\na>B\n"), compile(t, "a>A\n"); x.Text() != y.Text() {
		t.Errorf("of two rules the first is not taken: %q", x.Text())
	}
}

func TestP8Steady(t *testing.T) {
	for _, s := range steady {
		checkCompiled(t, s, compile(t, s), wordsTo(6))
	}
}

func TestP8AnyRules(t *testing.T) {
	t.Parallel()
	rng := rand.New(rand.NewSource(8))
	count, many := 0, 0
	short := wordsTo(4)
	for range 4000 {
		s := anyCompiled(rng, rng.Intn(3) > 0)
		x, r, e := machine.Compile(s, 200)
		if e != api.OK {
			continue
		}
		if r != (api.Refusal{}) {
			t.Errorf("Compile(%q, 200) = .., %v, OK", s, r)
		}
		words := append([]string{}, short...)
		for range 40 {
			words = append(words, anyWord(rng, []string{"a", "ab", "abcd"}[rng.Intn(3)], 5, 40))
		}
		checkCompiled(t, s, x, words)
		checkLimit(t, s, x.States())
		count++
		if x.States() > 10 {
			many++
		}
	}
	if count < 1000 || many < 100 {
		t.Errorf("rules are not of all sorts: %d, %d", count, many)
	}
}

// TestP8AnyRulesEarly: small rules, whose contexts look at few letters.
func TestP8AnyRulesEarly(t *testing.T) {
	t.Parallel()
	rng := rand.New(rand.NewSource(88))
	for range 200 {
		s := ""
		for range 1 + rng.Intn(3) {
			s += anyWord(rng, "ab", 1, 2) + ">" + anyWord(rng, "aA", 0, 3) + "/" + []string{"", "b", "a", ".", "[ab]", "b|", "b*", "[^a]", "a*b*", "(a|b)"}[rng.Intn(10)] + "\n"
		}
		checkEarly(t, s, stringsTo(4, "abc"), stringsTo(5, "abc"))
	}
}

func TestP8LongTexts(t *testing.T) {
	for _, s := range []string{"a>BBBB/.\n", "a>/b\nb>aaaa\n", "aaaa>A\naaa>B\n", "a>B/...d\n"} {
		x := compile(t, s)
		r := newRewriter(s)
		for _, w := range []string{strings.Repeat("a", 3001), strings.Repeat("aab", 1001), strings.Repeat("abcd", 700) + "a"} {
			if said(x, w) != r.of(w) {
				t.Errorf("of %q: it says another of %d letters", s, len(w))
			}
		}
	}
}
