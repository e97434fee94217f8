package machine_test

import (
	"math/rand"
	"regexp"
	"strings"
	"testing"

	"rewrite/api"
)

// rewriter: R(w) as the document's words have it, by Go's regexp.
type rewriter struct {
	rules []struct {
		from, to string
		match    *regexp.Regexp
	}
	// known: what short words become. What a rule does hangs on what follows alone, so what follows is rewritten as if nothing stood ahead of it.
	known map[string]string
}

var stars = regexp.MustCompile(`\*+`)

func newRewriter(s string) rewriter {
	r := rewriter{known: map[string]string{"": ""}}
	for _, line := range strings.Split(strings.TrimSuffix(s, "\n"), "\n") {
		from, rest, _ := strings.Cut(line, ">")
		to, context, _ := strings.Cut(rest, "/")
		// Go has no stars behind stars.
		match := regexp.MustCompile("^" + from + "(?:" + stars.ReplaceAllString(context, "*") + ")")
		r.rules = append(r.rules, struct {
			from, to string
			match    *regexp.Regexp
		}{from, to, match})
	}
	return r
}

// of: R(w).
func (r rewriter) of(w string) string {
	var said strings.Builder
	for len(w) > 8 {
		to, rest := r.step(w)
		said.WriteString(to)
		w = rest
	}
	return said.String() + r.ofShort(w)
}

func (r rewriter) ofShort(w string) string {
	known, ok := r.known[w]
	if !ok {
		to, rest := r.step(w)
		known = to + r.ofShort(rest)
		r.known[w] = known
	}
	return known
}

// step: what is said at the first place, and what is left behind it.
func (r rewriter) step(w string) (string, string) {
	from, to := 0, ""
	for _, rule := range r.rules {
		if len(rule.from) > from && rule.match.MatchString(w) {
			from, to = len(rule.from), rule.to
		}
	}
	if from == 0 {
		return w[:1], w[1:]
	}
	return to, w[from:]
}

func commonOf(words []string) string {
	all := words[0]
	for _, w := range words {
		for !strings.HasPrefix(w, all) {
			all = all[:len(all)-1]
		}
	}
	return all
}

// checkWitness: P7's words about a witness, for the first n and some greater ones.
func checkWitness(t *testing.T, s string, w api.Witness) {
	t.Helper()
	if w.Y == "" || w.C < 0 || w.C > 400 || len(w.X)+len(w.Y)+len(w.Z1)+len(w.Z2) > 4000 || strings.Trim(w.X+w.Y+w.Z1+w.Z2, "abcd") != "" {
		t.Errorf("of %q: the witness is %v", s, w)
		return
	}
	r := newRewriter(s)
	for _, n := range []int{0, 1, 2, 3, 4, 5, 6, 7, 8, 9, 10, 12, 15, 20, 30} {
		p := w.X + strings.Repeat(w.Y, n+w.C)
		one, other := r.of(p+w.Z1), r.of(p+w.Z2)
		common := len(commonOf([]string{one, other}))
		if len(one)+len(other)-2*common < n {
			t.Errorf("of %q: the witness is %v: with n = %d: %q and %q", s, w, n, one, other)
			return
		}
	}
}

// spot: where two stand who were told two kinds of what follows.
type spot struct{ kindA, toComeA, kindB, toComeB int }

type arc struct {
	to           spot
	saidA, saidB string
}

// teller: for each kind of words (as kindsOf has them) what is done where such a word begins.
type teller struct {
	ahead [][4]int
	from  []int
	to    []string
}

func newTeller(s string) teller {
	var walkers []walker
	var starts []int
	states := 0
	lines := strings.Split(strings.TrimSuffix(s, "\n"), "\n")
	for _, line := range lines {
		w := newWalker(line)
		walkers = append(walkers, w)
		starts = append(starts, states)
		states += len(w.next)
	}
	kinds, _ := kindsOf(walkers, 200)
	next, _ := joined(walkers)
	tell := teller{ahead: aheadOf(kinds, next)}
	for _, kind := range kinds {
		from, to := 0, ""
		for i, line := range lines {
			left, right, _ := strings.Cut(line, ">")
			if kind[starts[i]] == '+' && len(left) > from {
				from = len(left)
				to, _, _ = strings.Cut(right, "/")
			}
		}
		tell.from = append(tell.from, from)
		tell.to = append(tell.to, to)
	}
	return tell
}

func aheadOf(kinds []string, next [][4]int) [][4]int {
	numbers := map[string]int{}
	for i, k := range kinds {
		numbers[k] = i
	}
	ahead := make([][4]int, len(kinds))
	for i, kind := range kinds {
		for l := range 4 {
			longer := make([]byte, len(next))
			for q := range next {
				longer[q] = kind[next[q][l]]
			}
			ahead[i][l] = numbers[string(longer)]
		}
	}
	return ahead
}

func (tell teller) step(kind int, toCome int, l int) (string, int) {
	switch {
	case toCome > 0:
		return "", toCome - 1
	case tell.from[kind] > 0:
		return tell.to[kind], tell.from[kind] - 1
	}
	return "abcd"[l : l+1], 0
}

// arcs: of all spots that words lead to.
func (tell teller) arcs() map[spot][]arc {
	all := map[spot][]arc{}
	var left []spot
	for a := range tell.ahead {
		for b := range tell.ahead {
			left = append(left, spot{a, 0, b, 0})
		}
	}
	for len(left) > 0 {
		p := left[len(left)-1]
		left = left[:len(left)-1]
		if _, ok := all[p]; ok {
			continue
		}
		all[p] = []arc{}
		for l := range 4 {
			saidA, a := tell.step(p.kindA, p.toComeA, l)
			saidB, b := tell.step(p.kindB, p.toComeB, l)
			for x := range tell.ahead {
				for y := range tell.ahead {
					if tell.ahead[x][l] == p.kindA && tell.ahead[y][l] == p.kindB {
						to := spot{x, a, y, b}
						all[p] = append(all[p], arc{to, saidA, saidB})
						left = append(left, to)
					}
				}
			}
		}
	}
	return all
}

// circles: for each spot the number of the set of spots that lead to each other that it is of (by Tarjan).
func circles(arcs map[spot][]arc) map[spot]int {
	index, low, of := map[spot]int{}, map[spot]int{}, map[spot]int{}
	var stack []spot
	sets := 0
	var visit func(p spot)
	visit = func(p spot) {
		index[p] = len(index) + 1
		low[p] = index[p]
		stack = append(stack, p)
		for _, a := range arcs[p] {
			if index[a.to] == 0 {
				visit(a.to)
				low[p] = min(low[p], low[a.to])
			} else if _, done := of[a.to]; !done {
				low[p] = min(low[p], index[a.to])
			}
		}
		if low[p] == index[p] {
			for {
				q := stack[len(stack)-1]
				stack = stack[:len(stack)-1]
				of[q] = sets
				if q == p {
					break
				}
			}
			sets++
		}
	}
	for p := range arcs {
		if index[p] == 0 {
			visit(p)
		}
	}
	return of
}

// isEndless: whether words fall into infinitely many states, by other means than the program's: there is a way round on which one says more than the other; or what the two say parts where there is a way to a way round on which something is said.
func isEndless(s string) bool {
	arcs := newTeller(s).arcs()
	of := circles(arcs)
	drift := map[spot]int{}
	for p := range arcs {
		if _, ok := drift[p]; !ok && drifts(arcs, of, drift, p) {
			return true
		}
	}
	return parts(arcs, goingOn(arcs, of))
}

// drifts: gives each spot of a set how much more the first has said on a way there; whether another way has it otherwise.
func drifts(arcs map[spot][]arc, of map[spot]int, drift map[spot]int, from spot) bool {
	drift[from] = 0
	left := []spot{from}
	for len(left) > 0 {
		p := left[len(left)-1]
		left = left[:len(left)-1]
		for _, a := range arcs[p] {
			if of[a.to] != of[p] {
				continue
			}
			more := drift[p] + len(a.saidA) - len(a.saidB)
			was, ok := drift[a.to]
			if ok && was != more {
				return true
			}
			if !ok {
				drift[a.to] = more
				left = append(left, a.to)
			}
		}
	}
	return false
}

// goingOn: the spots from which there is a way to a way round on which something is said.
func goingOn(arcs map[spot][]arc, of map[spot]int) map[spot]bool {
	on := map[spot]bool{}
	for grown := true; grown; {
		grown = false
		for p := range arcs {
			for _, a := range arcs[p] {
				if !on[p] && (on[a.to] || of[p] == of[a.to] && a.saidA+a.saidB != "") {
					on[p] = true
					grown = true
				}
			}
		}
	}
	return on
}

// parts: whether two words said part at a spot of some; where no way round has one say more than the other.
func parts(arcs map[spot][]arc, on map[spot]bool) bool {
	type finding struct {
		at           spot
		saidA, saidB string
	}
	seen := map[finding]bool{}
	var left []finding
	for p := range arcs {
		if on[p] && p.toComeA == 0 && p.toComeB == 0 {
			left = append(left, finding{at: p})
		}
	}
	for len(left) > 0 {
		f := left[0]
		left = left[1:]
		if seen[f] {
			continue
		}
		seen[f] = true
		if f.saidA != "" && f.saidB != "" {
			return true
		}
		for _, a := range arcs[f.at] {
			if on[a.to] {
				x, y := f.saidA+a.saidA, f.saidB+a.saidB
				n := len(commonOf([]string{x, y}))
				left = append(left, finding{a.to, x[n:], y[n:]})
			}
		}
	}
	return false
}

// anyWord: of some letters, from so many to so many.
func anyWord(rng *rand.Rand, of string, least int, most int) string {
	w := ""
	for range least + rng.Intn(most-least+1) {
		i := rng.Intn(len(of))
		w += of[i : i+1]
	}
	return w
}

// sortsOfParts: contexts out of few parts have stars and letters that meet more often.
var sortsOfParts = [][]string{
	{"a", "a", "b", "c", "d", ".", "[ab]", "[^a]", "[bcd]", "|", "[^abcd]"},
	{"a", "a", "b", "|"},
	{"a", "b", "aa", "aaa", "|"},
	{".", "..", "...", "a", "b"},
	{".", "..", "....", "a|"},
	{"a", "b", "c", "d", "[ab]", "[abc]", "|", "(ab)*", "(aab)*", "(abc)*"},
	{"a"},
}

// anyCompiled: rules of all sorts; hasStars: or else contexts all of whose words are of bounded length.
func anyCompiled(rng *rand.Rand, hasStars bool) string {
	parts := sortsOfParts[rng.Intn(len(sortsOfParts))]
	from := []string{"a", "ab", "abc", "abcd"}[rng.Intn(4)]
	to := []string{"a", "ab", "aA", "abcd", "abcdABCD"}[rng.Intn(5)]
	s := ""
	for range 1 + rng.Intn(4) {
		s += anyWord(rng, from, 1, 1+rng.Intn(4)) + ">" + anyWord(rng, to, 0, 4)
		if rng.Intn(8) > 0 {
			context := contextOf(rng, parts, 3, 14)
			if !hasStars {
				context = strings.ReplaceAll(context, "*", "")
			}
			s += "/" + context
		}
		s += "\n"
	}
	return s
}

func contextOf(rng *rand.Rand, parts []string, depth int, bytes int) string {
	context := ""
	for range rng.Intn(7) {
		part := parts[rng.Intn(len(parts))]
		if depth > 0 && part[0] != '(' && rng.Intn(4) == 0 {
			part = "(" + contextOf(rng, parts, depth-1, bytes-2) + ")"
		}
		if depth == 0 && part[0] == '(' {
			part = "a"
		}
		if !strings.HasSuffix(part, "|") && rng.Intn(4) == 0 {
			part += "*"
		}
		if len(context)+len(part) <= bytes {
			context += part
		}
	}
	return context
}

// anyAmounts: rules of which almost nothing is said but how often letters come, so that what is said for two kinds parts by its length alone.
func anyAmounts(rng *rand.Rand) string {
	contexts := []string{"", "[abc]*d", "[bc]*d", "b*d", "(ab)*d", "(abc)*d", "(bb)*d", "(bbb)*d", "(b|cc)*d", "[abc]*dd", ".*dd", "b", "[bc]", "bb", "c*d"}
	s := ""
	for range 2 + rng.Intn(3) {
		s += anyWord(rng, "abc", 1, 1+rng.Intn(3)) + ">" + anyWord(rng, "a", 0, 3) + "/" + contexts[rng.Intn(len(contexts))] + "\n"
	}
	return s
}
