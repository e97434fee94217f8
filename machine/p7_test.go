package machine_test

import (
	"math/rand"
	"strings"
	"testing"

	"rewrite/api"
	"rewrite/machine"
)

// checkTwin: ErrTwin, whatever the limit, with a witness and nothing else.
func checkTwin(t *testing.T, s string) api.Witness {
	t.Helper()
	x, r, e := machine.Compile(s, 200)
	if x != nil || r.Line != 0 || e != api.ErrTwin {
		t.Errorf("Compile(%q, 200) = %v, %v, %d, want ErrTwin", s, x, r, e)
		return api.Witness{}
	}
	checkWitness(t, s, r.W)
	for _, limit := range []int{1, 2, 199} {
		x, again, e := machine.Compile(s, limit)
		if x != nil || again != r || e != api.ErrTwin {
			t.Errorf("Compile(%q, %d) = %v, %v, %d, want ErrTwin", s, limit, x, again, e)
		}
	}
	return r.W
}

// checkNoTwin: a machine or ErrStates, with no witness.
func checkNoTwin(t *testing.T, s string, limit int) api.Errno {
	t.Helper()
	x, r, e := machine.Compile(s, limit)
	if r != (api.Refusal{}) || e != api.OK && e != api.ErrStates || (x != nil) != (e == api.OK) {
		t.Errorf("Compile(%q, %d) = %v, %v, %d", s, limit, x, r, e)
	}
	return e
}

// drifting: rules whose stars must be gone along without an end before what is said is known.
var drifting = []string{
	"a>B/b*c\n", "a>aB/b*c\n", "a>B/.*d\n", "a>/[bc]*d\n",
	// The star stands deep, or in one row of several, or there are more of them.
	"a>B/(b|c)*d\n", "a>B/((b*)c)*d\n", "a>B/d|b*c\n", "a>B/b*c*d\n", "a>B/bb*c\n", "a>B/b**c\n", "a>B/(((b)*))c\n", "a>B/(bcd)*a\n", "a>B/(aa)*b\n",
	// Nothing differs but what stands behind what both say; or how much is said; or when.
	"a>abB/b*c\n", "a>aaaa/a*b\n", "a>/a*b\n", "aa>a/a*b\n", "ab>ba/(ab)*c\n", "a>aa/a*b\na>a/a*c\n", "aa>AB/a*b\na>A\n",
	// What parts is not that a rule is taken but which one, or how long its FROM is.
	"ab>C/b*c\na>D\n", "ab>AB/b*c\nab>BA\n", "aa>A/a*b\naaa>A/a*c\n", "aaaa>/(aaaaaaa)*b\n", "a>A/a*b\na>B\n", "aaa>A/a*c\naa>B/a*b\n",
	// One way round drifts, and one beside it does not; and both say the same letter alone.
	"b>a\nc>aa/[bc]*d\nc>a\n", "c>a\nb>aa/[bc]*d\nb>a\n", "b>a\nc>aa/[bc]*d\nc>\n", "b>a\nc>a/[bc]*d\nc>\n", "b>aa/[bc]*d\nb>a\nc>a/[bc]*d\nc>aa\n",
	// What drifts is led to by other rules.
	"ba>B\na>A/c*d\n", "abaa>a/bbaadabaabab*a\nab>\na>\n", "adda>/aada.*cbaaad*c\na>/()*\nbcb>/\n",
	// Rounds of many letters.
	"b>/(aaaaaaa)*ab\naaaa>Bca\n", "aaaa>b/(dcdaba*ccb)*c\naa>\n", "a>A/(aaaaaaaaaa)*b\n", "aaaa>aaab/(aaaaaaa)*b\naaa>aaa/(aaaaaaaaaa)*c\n",
	// One is far behind the other at first, so that C is great.
	"a>/a*bbabbbbabbbb\nb>AaAA\na>bbAb/([b])b\n", "a>bab/a*bbbbaaaaaaab\nb>aaAa\na>dcAb/\n", "a>Bbc/a*bababa.aaaab\na>acba\nb>aabb\n", "a>AAA/ab*aa*ab\na>AAAA/\n",
}

// steady: rules with stars, and yet not more than some letters are ever held back.
var steady = []string{
	"a>b/c*\n", "a>B/.*\n", "a>B/.*.*\n", "a>B/(b|c*)\n", "a>B/b*|c\n", "a>B/[^abcd]*\n", "a>B/[^abcd]*c\n", "a>B/()*c\n", "a>B/(|)*c\n",
	// What stands behind the star may stand in it as well.
	"a>B/b*b\n", "a>B/b*bb\n", "a>B/[bc]*c|[bc]*b\n", "a>B/b*.\n", "a>B/.*...\n", "a>bbab/b*...b\n", "a>B/b*c|b*[^c]\n",
	// What is said is the same in the end.
	"a>a/b*c\n", "ab>ab/b*c\n", "a>B/b*c\na>B\n", "a>B\na>C/b*c\n", "aa>BB/a*b\na>B\n", "aaa>\naa>B/a*b\n", "aaa>A\naa>B/a*b\n", "ab>C/c*d\nab>C\n", "aaaa>aaaa/(aaaaaaa)*b\naaa>aaa/(aaaaaaaaaa)*c\nd>D/d\n",
	// Nothing is said on the way round.
	"a>\nb>B/a*c\nc>C\n", "b>B/a*c\na>\n", "b>\na>\nc>d/[ab]*d\n", "aaaa>/(aaaaaaa)*b\naaa>/(aaaaaaaaaa)*c\na>\nd>D/d\n",
	// The rule with the star is never taken: another one is longer, or stands first.
	"a>A/b*c\nab>B\nac>C\n", "a>a\na>A/b*c\n",
}

func TestP7Examples(t *testing.T) {
	for _, s := range []string{"a>B/b*c\n", "a>aB/b*c\n", "a>B/.*d\n"} {
		checkTwin(t, s)
	}
	// The document's own witness.
	checkWitness(t, "a>B/b*c\n", api.Witness{X: "a", Y: "b", Z2: "c"})
	for _, s := range []string{"a>b/c*\n", "a>B/[^abcd]\n", "a>B/.b\n", "ab>C/d\na>D\n"} {
		if e := checkNoTwin(t, s, 200); e != api.OK {
			t.Errorf("Compile(%q, 200) = %d", s, e)
		}
	}
	if e := checkNoTwin(t, "ab>C/d\na>D\n", 2); e != api.ErrStates {
		t.Errorf("example 7 with limit 2 is %d", e)
	}
}

func TestP7Drifting(t *testing.T) {
	greatest, farthest := 0, 0
	for _, s := range drifting {
		if !isEndless(s) {
			t.Errorf("%q does not drift", s)
		}
		w := checkTwin(t, s)
		greatest = max(greatest, w.C)
		farthest = max(farthest, len(w.X))
	}
	if greatest < 10 || farthest < 10 {
		t.Errorf("no rules are hard to witness: C %d, X of %d letters", greatest, farthest)
	}
}

func TestP7Steady(t *testing.T) {
	for _, s := range steady {
		if isEndless(s) {
			t.Errorf("%q drifts", s)
		}
		if e := checkNoTwin(t, s, 200); e != api.OK {
			t.Errorf("Compile(%q, 200) = %d", s, e)
		}
		checkNoTwin(t, s, 1)
	}
	// As many words as letters in a window of ten: far too many states, but not infinitely many.
	for _, s := range []string{"a>B/..........\n", "a>B/.............\n", "a>B/..........*\n", "a>B/.*.........\n", "ab>/(..)*........\n"} {
		if isEndless(s) {
			t.Errorf("%q drifts", s)
		}
		if e := checkNoTwin(t, s, 200); e != api.ErrStates {
			t.Errorf("Compile(%q, 200) = %d", s, e)
		}
	}
}

func TestP7BoundedContexts(t *testing.T) {
	t.Parallel()
	rng := rand.New(rand.NewSource(7))
	count := 0
	for range 3000 {
		s := anyCompiled(rng, false)
		for _, limit := range []int{1, 200} {
			x, r, e := machine.Compile(s, limit)
			if e == api.ErrTwin || r != (api.Refusal{}) || (x != nil) != (e == api.OK) {
				t.Errorf("Compile(%q, %d) = %v, %v, %d", s, limit, x, r, e)
			}
			if e == api.ErrStates {
				count++
			}
		}
	}
	if count < 500 {
		t.Errorf("only %d rules of more states than the limit", count)
	}
}

// TestP7AnyRules: ErrTwin just if words fall into infinitely many states, by other means.
func TestP7AnyRules(t *testing.T) {
	t.Parallel()
	rng := rand.New(rand.NewSource(77))
	count := map[api.Errno]int{}
	for i := range 4000 {
		s := anyCompiled(rng, true)
		if i%4 == 0 {
			s = anyAmounts(rng)
		}
		x, r, e := machine.Compile(s, 200)
		count[e]++
		if e == api.ErrBig {
			continue
		}
		if endless := isEndless(s); endless != (e == api.ErrTwin) || endless != (r.W != api.Witness{}) {
			t.Errorf("Compile(%q, 200) = %v, %v, %d; infinitely many states: %v", s, x, r, e, endless)
			continue
		}
		if e == api.ErrTwin {
			checkTwin(t, s)
		} else {
			checkNoTwin(t, s, 1)
		}
	}
	if count[api.OK] < 500 || count[api.ErrTwin] < 300 || count[api.ErrStates] < 50 {
		t.Errorf("rules are not of all sorts: %v", count)
	}
}

// TestP7OtherErrors: those named first, and that none of them has a witness.
func TestP7OtherErrors(t *testing.T) {
	const twin = "a>B/b*c\n"
	for _, limit := range []int{-1, 0, 201} {
		checkRefused(t, twin, limit, api.ErrLimit, 0)
	}
	checkRefused(t, twin+"x\n", 1, api.ErrLine, 2)
	checkRefused(t, strings.TrimSuffix(twin, "\n"), 1, api.ErrLine, 1)
	checkRefused(t, strings.Repeat(twin, 5), 1, api.ErrRules, 0)
	checkRefused(t, great+great+great+twin, 1, api.ErrBig, 0)
	checkTwin(t, strings.Repeat(twin, 4))
	checkTwin(t, great+great+twin)
}
