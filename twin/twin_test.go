package twin

import (
	"strings"
	"testing"

	"rewrite/api"
	"rewrite/foresee"
	"rewrite/rule"
)

func view(t *testing.T, s string) foresee.View {
	t.Helper()
	rules, _, e := rule.Read(s)
	v, ok := foresee.New(rules)
	if e != api.OK || !ok {
		t.Fatalf("of %q: %d, %v", s, e, ok)
	}
	return v
}

// part: by how many letters what is said of two words parts.
func part(v foresee.View, one string, other string) int {
	x, _ := v.Run(one, 0, 0)
	y, _ := v.Run(other, 0, 0)
	for x != "" && y != "" && x[0] == y[0] {
		x, y = x[1:], y[1:]
	}
	return len(x) + len(y)
}

func TestFind(t *testing.T) {
	for _, s := range []string{
		"a>B/b*c\n", "a>aB/b*c\n", "a>B/.*d\n", "a>/a*b\n", "aa>a/a*b\n", "ab>ba/(ab)*c\n", "aaaa>/(aaaaaaa)*b\n", "aa>A/a*b\naaa>A/a*c\n",
	} {
		v := view(t, s)
		w, ok := Find(v)
		if !ok || w.Y == "" || w.C < 0 || w.C > 400 || len(w.X+w.Y+w.Z1+w.Z2) > 4000 {
			t.Errorf("of %q: %v, %v", s, w, ok)
		}
		for n := range 50 {
			p := w.X + strings.Repeat(w.Y, n+w.C)
			if got := part(v, p+w.Z1, p+w.Z2); got < n {
				t.Errorf("of %q: %v: with n = %d they part by %d", s, w, n, got)
			}
		}
	}
}

func TestFindNone(t *testing.T) {
	for _, s := range []string{"a>B\n", "a>b/c\n", "a>b/c*\n", "a>a/b*c\n", "a>B/.............\n", "a>\nb>B/a*c\n", "aa>BB/a*b\na>B\n"} {
		if w, ok := Find(view(t, s)); ok || w != (api.Witness{}) {
			t.Errorf("of %q: %v, %v", s, w, ok)
		}
	}
	if w, ok := Find(foresee.View{}); ok || w != (api.Witness{}) {
		t.Errorf("of no view: %v, %v", w, ok)
	}
}

// TestTimesAhead holds the number against what parts two ways, counted letter by letter.
func TestTimesAhead(t *testing.T) {
	for _, c := range []struct {
		one, other way
		times      int
		ok         bool
	}{
		// One says more each time.
		{way{"", "a", ""}, way{"", "", ""}, 0, true},
		{way{"", "a", ""}, way{"aaa", "", ""}, 3, true},
		{way{"", "aa", ""}, way{"aaa", "", ""}, 2, true},
		{way{"", "aa", ""}, way{"aaaa", "", ""}, 2, true},
		{way{"", "", "aaa"}, way{"", "a", ""}, 3, true},
		{way{"bb", "ab", "a"}, way{"", "abab", "b"}, 1, true},
		{way{"a", "", ""}, way{"aa", "a", ""}, 0, true},
		// Both say as much, and something else.
		{way{"a", "a", ""}, way{"b", "a", ""}, 0, true},
		{way{"", "a", ""}, way{"", "b", ""}, 1, true},
		{way{"", "ab", ""}, way{"", "aa", ""}, 1, true},
		{way{"aaa", "b", ""}, way{"", "a", ""}, 4, true},
		{way{"ab", "ab", ""}, way{"", "ba", ""}, 1, true},
		{way{"", "ab", ""}, way{"aba", "ab", ""}, 2, true},
		{way{"", "ab", ""}, way{"abab", "aa", ""}, 3, true},
		// Both say the same without end.
		{way{"", "a", "b"}, way{"", "a", "a"}, 0, false},
		{way{"a", "ba", ""}, way{"", "ab", ""}, 0, false},
		{way{"abab", "ab", ""}, way{"", "ab", ""}, 0, false},
		// Nothing is said on the way round.
		{way{"a", "", ""}, way{"b", "", ""}, 0, false},
	} {
		for _, both := range [][2]way{{c.one, c.other}, {c.other, c.one}} {
			times, ok := timesAhead(both[0], both[1])
			if times != c.times || ok != c.ok {
				t.Errorf("timesAhead(%v, %v) = %d, %v, want %d, %v", both[0], both[1], times, ok, c.times, c.ok)
			}
			for n := 0; ok && n < 30; n++ {
				x := both[0].to + strings.Repeat(both[0].round, n+times) + both[0].rest
				y := both[1].to + strings.Repeat(both[1].round, n+times) + both[1].rest
				for x != "" && y != "" && x[0] == y[0] {
					x, y = x[1:], y[1:]
				}
				if len(x)+len(y) < n {
					t.Errorf("%v and %v part by %q and %q with n = %d", both[0], both[1], x, y, n)
				}
			}
		}
	}
}

func TestSettle(t *testing.T) {
	for _, c := range []struct{ before, after api.Witness }{
		{api.Witness{X: "a", Y: "b", C: 0}, api.Witness{X: "a", Y: "b", C: 0}},
		{api.Witness{X: "a", Y: "b", C: 400}, api.Witness{X: "a", Y: "b", C: 400}},
		{api.Witness{X: "a", Y: "bc", Z1: "a", Z2: "d", C: 403}, api.Witness{X: "abcbcbc", Y: "bc", Z1: "a", Z2: "d", C: 400}},
	} {
		if w := settle(c.before); w != c.after {
			t.Errorf("settle(%v) = %v", c.before, w)
		}
	}
}
