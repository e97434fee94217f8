package early_test

import (
	"testing"

	"rewrite/api"
	"rewrite/early"
	"rewrite/foresee"
	"rewrite/rule"
)

func view(t *testing.T, s string) foresee.View {
	t.Helper()
	rules, _, e := rule.Read(s)
	v, ok := foresee.New(rules)
	if e != api.OK || !ok {
		t.Fatalf("of %q: %d, %v", s, e, ok)
	}
	return v
}

func TestStates(t *testing.T) {
	v := view(t, "ab>AB\na>AC/c\n")
	want := []early.State{
		{End: "", Said: [4]string{"", "b", "c", "d"}, Next: [4]int{1, 0, 0, 0}},
		{End: "a", Said: [4]string{"a", "AB", "ACc", "ad"}, Next: [4]int{1, 0, 0, 0}},
	}
	for _, limit := range []int{2, 3, 200, 1 << 30} {
		states, ok := early.States(v, limit)
		if !ok || len(states) != len(want) {
			t.Fatalf("limit %d: %v, %v", limit, states, ok)
		}
		for i, q := range states {
			if q != want[i] {
				t.Errorf("limit %d: state %d is %v, want %v", limit, i, q, want[i])
			}
		}
	}
	for _, limit := range []int{-1 << 63, -1, 0, 1} {
		if states, ok := early.States(v, limit); ok || states != nil {
			t.Errorf("limit %d: %v, %v", limit, states, ok)
		}
	}
}

// TestLettersToCome: how many letters of a match are to come makes no state of its own, where the same is said in the end.
func TestLettersToCome(t *testing.T) {
	for _, c := range []struct {
		s     string
		count int
	}{
		{"aaaa>aaaa\n", 1}, {"aaaa>\naaa>\naa>\na>\n", 1}, {"aaaa>\na>\n", 1}, {"abcd>abcd\nbc>bc\n", 1},
		{"aa>A\na>A\n", 2}, {"aaa>A\naa>A\na>A\n", 3}, {"aaaa>A\naaa>A\naa>A\na>A\n", 4},
		// A match that is said at its first letter; b and c could still be the first of others, but are not.
		{"abc>Ab\nab>Ab\na>A\nc>\n", 1},
	} {
		states, ok := early.States(view(t, c.s), 200)
		if !ok || len(states) != c.count {
			t.Errorf("%q has %d states, want %d: %v", c.s, len(states), c.count, states)
		}
	}
}

// TestStatesWithoutEnd: no limit is too great for the search to end.
func TestStatesWithoutEnd(t *testing.T) {
	for _, s := range []string{"a>B/b*c\n", "a>/a*b\n", "a>B/.............\n"} {
		if states, ok := early.States(view(t, s), 2000); ok || states != nil {
			t.Errorf("%q has %d states", s, len(states))
		}
	}
}
