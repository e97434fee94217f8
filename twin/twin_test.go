package twin

import (
	"strings"
	"testing"

	"rewrite/api"
	"rewrite/foresee"
	"rewrite/rule"
)

func view(t *testing.T, s string) foresee.View {
	t.Helper()
	rules, _, e := rule.Read(s)
	v, ok := foresee.New(rules)
	if e != api.OK || !ok {
		t.Fatalf("of %q: %d, %v", s, e, ok)
	}
	return v
}

// part: by how many letters what is said of two words parts.
func part(v foresee.View, one string, other string) int {
	x, _ := v.Run(one, 0, 0)
	y, _ := v.Run(other, 0, 0)
	for x != "" && y != "" && x[0] == y[0] {
		x, y = x[1:], y[1:]
	}
	return len(x) + len(y)
}

func TestFind(t *testing.T) {
	for _, s := range []string{
		"a>B/b*c\n", "a>aB/b*c\n", "a>B/.*d\n", "a>/a*b\n", "aa>a/a*b\n", "ab>ba/(ab)*c\n", "aaaa>/(aaaaaaa)*b\n", "aa>A/a*b\naaa>A/a*c\n",
	} {
		v := view(t, s)
		w, ok := Find(v)
		if !ok || w.Y == "" || w.C < 0 || w.C > 400 || len(w.X+w.Y+w.Z1+w.Z2) > 4000 {
			t.Errorf("of %q: %v, %v", s, w, ok)
		}
		for n := range 50 {
			p := w.X + strings.Repeat(w.Y, n+w.C)
			if got := part(v, p+w.Z1, p+w.Z2); got < n {
				t.Errorf("of %q: %v: with n = %d they part by %d", s, w, n, got)
			}
		}
	}
}

func TestFindNone(t *testing.T) {
	for _, s := range []string{"a>B\n", "a>b/c\n", "a>b/c*\n", "a>a/b*c\n", "a>B/.............\n", "a>\nb>B/a*c\n", "aa>BB/a*b\na>B\n"} {
		if w, ok := Find(view(t, s)); ok || w != (api.Witness{}) {
			t.Errorf("of %q: %v, %v", s, w, ok)
		}
	}
	if w, ok := Find(foresee.View{}); ok || w != (api.Witness{}) {
		t.Errorf("of no view: %v, %v", w, ok)
	}
}

// TestTimesAhead holds the number against what parts two ways, counted letter by letter.
func TestTimesAhead(t *testing.T) {
	for _, c := range []struct {
		one, other way
		times      int
		ok         bool
	}{
		// One says more each time.
		{way{"", "a", ""}, way{"", "", ""}, 0, true},
		{way{"", "a", ""}, way{"aaa", "", ""}, 3, true},
		{way{"", "aa", ""}, way{"aaa", "", ""}, 2, true},
		{way{"", "aa", ""}, way{"aaaa", "", ""}, 2, true},
		{way{"", "", "aaa"}, way{"", "a", ""}, 3, true},
		{way{"bb", "ab", "a"}, way{"", "abab", "b"}, 1, true},
		{way{"a", "", ""}, way{"aa", "a", ""}, 0, true},
		// Both say as much, and something else.
		{way{"a", "a", ""}, way{"b", "a", ""}, 0, true},
		{way{"", "a", ""}, way{"", "b", ""}, 1, true},
		{way{"", "ab", ""}, way{"", "aa", ""}, 1, true},
		{way{"aaa", "b", ""}, way{"", "a", ""}, 4, true},
		{way{"ab", "ab", ""}, way{"", "ba", ""}, 1, true},
		{way{"", "ab", ""}, way{"aba", "ab", ""}, 2, true},
		{way{"", "ab", ""}, way{"abab", "aa", ""}, 3, true},
		// Both say the same without end.
		{way{"", "a", "b"}, way{"", "a", "a"}, 0, false},
		{way{"a", "ba", ""}, way{"", "ab", ""}, 0, false},
		{way{"abab", "ab", ""}, way{"", "ab", ""}, 0, false},
		// Nothing is said on the way round.
		{way{"a", "", ""}, way{"b", "", ""}, 0, false},
	} {
		for _, both := range [][2]way{{c.one, c.other}, {c.other, c.one}} {
			times, ok := timesAhead(both[0], both[1])
			if times != c.times || ok != c.ok {
				t.Errorf("timesAhead(%v, %v) = %d, %v, want %d, %v", both[0], both[1], times, ok, c.times, c.ok)
			}
			for n := 0; ok && n < 30; n++ {
				x := both[0].to + strings.Repeat(both[0].round, n+times) + both[0].rest
				y := both[1].to + strings.Repeat(both[1].round, n+times) + both[1].rest
				for x != "" && y != "" && x[0] == y[0] {
					x, y = x[1:], y[1:]
				}
				if len(x)+len(y) < n {
					t.Errorf("%v and %v part by %q and %q with n = %d", both[0], both[1], x, y, n)
				}
			}
		}
	}
}

func TestSettle(t *testing.T) {
	for _, c := range []struct{ before, after api.Witness }{
		{api.Witness{X: "a", Y: "b", C: 0}, api.Witness{X: "a", Y: "b", C: 0}},
		{api.Witness{X: "a", Y: "b", C: 400}, api.Witness{X: "a", Y: "b", C: 400}},
		{api.Witness{X: "a", Y: "bc", Z1: "a", Z2: "d", C: 403}, api.Witness{X: "abcbcbc", Y: "bc", Z1: "a", Z2: "d", C: 400}},
	} {
		if w := settle(c.before); w != c.after {
			t.Errorf("settle(%v) = %v", c.before, w)
		}
	}
}

// small: a way to a circle of two pairs, and one pair from which nothing leads on.
func small() graph {
	return graph{
		pairs:  make([]pair, 4),
		steps:  []step{{from: 0, to: 1, l: 0}, {from: 1, to: 2, l: 1}, {from: 2, to: 1, l: 2}},
		first:  []int{0, 1, 2, 3, 3},
		onward: []int{0, 1, 2, -1},
	}
}

func TestCircle(t *testing.T) {
	g := small()
	for _, c := range []struct {
		from      int
		on, round string
		end       int
	}{{0, "a", "bc", 1}, {1, "", "bc", 1}, {2, "", "cb", 2}, {3, "", "", 3}} {
		if on, round, end := g.circle(c.from); on != c.on || round != c.round || end != c.end {
			t.Errorf("circle(%d) = %q, %q, %d", c.from, on, round, end)
		}
	}
}

func TestAddAndWord(t *testing.T) {
	s := search{graph: small(), last: make([]int, 4)}
	for _, c := range []struct {
		f     finding
		count int
	}{
		{finding{pair: 0, from: -1}, 1},
		{finding{pair: 0, from: -1}, 1},
		{finding{pair: 3, from: -1}, 1},
		{finding{pair: 1, from: 0, l: 0}, 2},
		{finding{pair: 2, from: 1, l: 1}, 3},
		{finding{pair: 1, from: 2, l: 2, held: [2]string{"a", ""}}, 4},
		{finding{pair: 1, from: 2, l: 2}, 4},
		{finding{pair: 1, from: 2, l: 2, held: [2]string{"", "a"}}, 5},
		{finding{pair: 1, from: 2, l: 2, held: [2]string{"a", ""}}, 5},
		{finding{pair: 0, from: 3, l: 3}, 5},
	} {
		s.add(c.f)
		if len(s.found) != c.count {
			t.Errorf("with %v %d are found, want %d", c.f, len(s.found), c.count)
		}
	}
	for _, c := range []struct {
		i, from int
		w       string
	}{{0, -1, ""}, {1, -1, "a"}, {3, -1, "abc"}, {1, 0, "a"}, {3, 0, "abc"}, {3, 1, "bc"}, {4, 2, "c"}, {3, 3, ""}} {
		if w := s.word(c.i, c.from); w != c.w {
			t.Errorf("word(%d, %d) = %q, want %q", c.i, c.from, w, c.w)
		}
	}
}

// TestJudgeOnTheWay: a pair that was come to before is a witness, if what is held is another, be it come to at the very first.
func TestJudgeOnTheWay(t *testing.T) {
	v := view(t, "a>aa/a*b\n")
	g := newGraph(v)
	for at, p := range g.pairs {
		if v.Kinds.Words[p[0].kind] != "" || v.Kinds.Words[p[1].kind] != "ab" {
			continue
		}
		s := search{graph: g, last: make([]int, len(g.pairs))}
		s.found = []finding{{pair: at, from: -1}, {pair: at, from: 0, l: 0, held: [2]string{"", "a"}}}
		w, ok := s.judge(1)
		if want := (api.Witness{Y: "a", Z2: "ab"}); !ok || w != want {
			t.Errorf("judge = %v, %v, want %v", w, ok, want)
		}
		return
	}
	t.Errorf("there is no such pair")
}

// TestFollow: behind the word of a kind the text ends, so its last letter is not ahead of any other.
func TestFollow(t *testing.T) {
	v := view(t, "a>A/b\nc>C/a\nbb>\n")
	for k, w := range v.Kinds.Words {
		if w != "a" {
			continue
		}
		got := follow(v, "cbc", "bbc", k)
		if want := (way{to: "cbC", round: "C", rest: "a"}); got != want {
			t.Errorf("follow = %v, want %v", got, want)
		}
		return
	}
	t.Errorf("no kind has the word a")
}
