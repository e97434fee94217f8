package automaton_test

import (
	"testing"

	"rewrite/api"
	"rewrite/automaton"
	"rewrite/rule"
)

// great: a rule of 20 classes and 19 kinds: by how many letters a begin a word, from none to 18.
const great = "aaaa>B/aaaaaaaaaaaaaa\n"

func least(t *testing.T, s string) (automaton.Automaton, []int) {
	t.Helper()
	rules, _, e := rule.Read(s)
	if e != api.OK {
		t.Fatalf("Read(%q) = %d", s, e)
	}
	var all automaton.Automaton
	var counts []int
	for _, r := range rules {
		a, ok := automaton.Least(r.Match)
		if !ok {
			t.Fatalf("a rule of %q has more than %d classes", s, api.MaxAutos)
		}
		counts = append(counts, len(a.Next))
		all.Add(a)
	}
	return all, counts
}

func TestClassesAndKinds(t *testing.T) {
	for _, c := range []struct {
		s       string
		classes []int
		kinds   int
	}{
		{"a>b\n", []int{3}, 2},
		{"abcd>b\n", []int{6}, 5},
		{"a>b/\n", []int{3}, 2},
		{"a>b/c*\n", []int{3}, 2},
		{"a>b/c\n", []int{4}, 3},
		{"a>b/b*c\n", []int{4}, 3},
		{"a>b/.*d\n", []int{4}, 3},
		{"a>b/.\n", []int{4}, 3},
		// What stands behind a, ba, baba.. is what must stand at first: no class of its own.
		{"a>B/(ba)*c\n", []int{4}, 3},
		{"a>B/[^abcd]\n", []int{1}, 1},
		{"a>B/[^abcd]|b\n", []int{4}, 3},
		{"a>B/(b|b|b)\n", []int{4}, 3},
		{"a>B/(ba|ca)\n", []int{5}, 4},
		{"a>b\na>b\n", []int{3, 3}, 2},
		{"a>b\nb>a\n", []int{3, 3}, 3},
		{"a>b\nb>a\nc>a\nd>a\n", []int{3, 3, 3, 3}, 5},
		{great, []int{20}, 19},
		{great + great + great, []int{20, 20, 20}, 19},
		{great + "bbbb>B/b\n", []int{20, 7}, 24},
		{great + "bbbb>B\n", []int{20, 6}, 23},
	} {
		all, counts := least(t, c.s)
		for i, n := range c.classes {
			if i >= len(counts) || counts[i] != n {
				t.Errorf("%q has %v classes, want %v", c.s, counts, c.classes)
				break
			}
		}
		kinds, ok := automaton.KindsOf(all)
		if n := len(kinds.Ahead); !ok || n != c.kinds || len(kinds.Words) != n {
			t.Errorf("%q has %d kinds, and %d words of them, want %d", c.s, n, len(kinds.Words), c.kinds)
		}
	}
}

// TestMaxAutos: rules that have MaxAutos classes by themselves, and one letter to come makes one more.
func TestMaxAutos(t *testing.T) {
	for _, context := range []string{"[^a]*b.(..b).c", "a*b*.a*a....a"} {
		_, counts := least(t, "aaa>b/"+context+"\n")
		if counts[0] != api.MaxAutos {
			t.Errorf("behind aaa, %q: %d classes", context, counts[0])
		}
		rules, _, _ := rule.Read("aaaa>b/" + context + "\n")
		if a, ok := automaton.Least(rules[0].Match); ok || a.Next != nil || a.Hit != nil {
			t.Errorf("behind aaaa, %q: %d classes", context, len(a.Next))
		}
	}
}

func TestManyKinds(t *testing.T) {
	for _, s := range []string{great + "bbbb>B/bb\n", "aaaa>B/...d\n", "a>B/...........d\n", great + "bbbb>B/bbbbbbbbbbbbbb\n"} {
		all, _ := least(t, s)
		if kinds, ok := automaton.KindsOf(all); ok || kinds.Ahead != nil || kinds.Words != nil {
			t.Errorf("%q has %d kinds", s, len(kinds.Ahead))
		}
	}
}

func TestLeastBeginsAt0(t *testing.T) {
	all, _ := least(t, "ab>A/c*d\n")
	for _, c := range []struct {
		w   string
		hit bool
	}{{"", false}, {"ab", false}, {"abd", true}, {"abccd", true}, {"abccdaa", true}, {"abca", false}, {"babd", false}, {"abcad", false}} {
		q := 0
		for i := range len(c.w) {
			q = all.Next[q][c.w[i]-'a']
		}
		if all.Hit[q] != c.hit {
			t.Errorf("%q is a hit: %v", c.w, !c.hit)
		}
	}
}

// TestClassesOfWindows: which of the last letters were a must be known, so each letter more makes twice as many classes; beside those there are the start, what is hit and what is lost.
func TestClassesOfWindows(t *testing.T) {
	for _, c := range []struct {
		context string
		classes int
	}{{".*ab", 5}, {".*a.b", 7}, {".*a..b", 11}, {".*a...b", 19}, {".*a....b", 35}, {".*a.....b", 0}, {".*a..........b", 0}} {
		rules, _, e := rule.Read("a>A/" + c.context + "\n")
		if e != api.OK {
			t.Fatalf("Read = %d", e)
		}
		a, ok := automaton.Least(rules[0].Match)
		if len(a.Next) != c.classes || len(a.Hit) != c.classes || ok != (c.classes > 0) {
			t.Errorf("%q: %d classes, %v, want %d", c.context, len(a.Next), ok, c.classes)
		}
	}
}

func isHit(a automaton.Automaton, q int, w string) bool {
	for i := range len(w) {
		q = a.Next[q][w[i]-'a']
	}
	return a.Hit[q]
}

// kindOf: by letters laid ahead, from the last on.
func kindOf(kinds automaton.Kinds, w string) int {
	k := 0
	for i := len(w) - 1; i >= 0; i-- {
		k = kinds.Ahead[k][w[i]-'a']
	}
	return k
}

// words: all of at most n letters, the shorter first.
func words(n int) []string {
	all := []string{""}
	from := 0
	for range n {
		to := len(all)
		for _, w := range all[from:to] {
			all = append(all, w+"a", w+"b", w+"c", w+"d")
		}
		from = to
	}
	return all
}

func TestKinds(t *testing.T) {
	for _, s := range []string{"a>b\n", "ab>A/c*d\n", "a>B/.b\n", "a>B/b*c\nab>C\n", "a>B/[^abcd]\n", "aab>A/c\n"} {
		all, _ := least(t, s)
		kinds, ok := automaton.KindsOf(all)
		if !ok {
			t.Fatalf("%q has too many kinds", s)
		}
		shortest := map[int]string{}
		for _, w := range words(5) {
			k := kindOf(kinds, w)
			for q := range all.Next {
				if kinds.IsHit(k, q) != isHit(all, q, w) {
					t.Errorf("of %q: %q, of kind %d, leads from %d to a hit: %v", s, w, k, q, isHit(all, q, w))
				}
			}
			if _, ok := shortest[k]; !ok {
				shortest[k] = w
			}
		}
		for k, w := range kinds.Words {
			if kindOf(kinds, w) != k || len(w) != len(shortest[k]) {
				t.Errorf("of %q: the word of kind %d is %q", s, k, w)
			}
		}
	}
}

func TestKindsThatAreNone(t *testing.T) {
	all, _ := least(t, "a>b\n")
	kinds, _ := automaton.KindsOf(all)
	for _, n := range []int{-1 << 63, -1, len(kinds.Ahead), 60, 1<<63 - 1} {
		if kinds.IsHit(n, 0) || kinds.IsHit(0, n) {
			t.Errorf("kind or state %d is a hit", n)
		}
	}
}
