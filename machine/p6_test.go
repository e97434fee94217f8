package machine_test

import (
	"math/rand"
	"regexp"
	"regexp/syntax"
	"slices"
	"strings"
	"testing"

	"rewrite/api"
	"rewrite/machine"
)

// great: a rule of 20 classes and 19 kinds: by how many letters a begin a word, from none to 18.
const great = "aaaa>B/aaaaaaaaaaaaaa\n"

// as: a rule of n + 2 classes and n + 1 kinds: n letters a must stand there (4 to 18).
func as(n int) string { return "aaaa>D/" + strings.Repeat("a", n-4) + "\n" }

// walker: for words that begin with a match of a rule, an automaton that is not least, by other means than the program's.
type walker struct {
	next [][4]int
	hit  []bool
}

func newWalker(line string) walker {
	from, rest, _ := strings.Cut(line, ">")
	_, context, _ := strings.Cut(rest, "/")
	context = regexp.MustCompile(`\*+`).ReplaceAllString(context, "*")
	re, err := syntax.Parse(from+"(?:"+context+")", syntax.Perl)
	if err != nil {
		return walker{}
	}
	prog, err := syntax.Compile(re)
	if err != nil {
		return walker{}
	}
	var w walker
	numbers := map[string]int{}
	var sets [][]int
	number := func(set []int) int {
		key := make([]rune, len(set))
		for i, pc := range set {
			key[i] = rune(pc)
		}
		n, ok := numbers[string(key)]
		if !ok {
			n = len(sets)
			numbers[string(key)] = n
			sets = append(sets, set)
		}
		return n
	}
	number(reach(prog, []int{prog.Start}))
	for i := 0; i < len(sets); i++ {
		hit := slices.ContainsFunc(sets[i], func(pc int) bool { return prog.Inst[pc].Op == syntax.InstMatch })
		next := [4]int{i, i, i, i}
		for l := range 4 {
			if !hit {
				next[l] = number(reach(prog, step(prog, sets[i], rune('a'+l))))
			}
		}
		w.next = append(w.next, next)
		w.hit = append(w.hit, hit)
	}
	return w
}

func reach(prog *syntax.Prog, from []int) []int {
	seen := map[int]bool{}
	for len(from) > 0 {
		pc := from[0]
		from = from[1:]
		if seen[pc] {
			continue
		}
		seen[pc] = true
		inst := prog.Inst[pc]
		switch inst.Op {
		case syntax.InstAlt, syntax.InstAltMatch:
			from = append(from, int(inst.Out), int(inst.Arg))
		case syntax.InstCapture, syntax.InstNop:
			from = append(from, int(inst.Out))
		}
	}
	var set []int
	for pc := range seen {
		set = append(set, pc)
	}
	slices.Sort(set)
	return set
}

func step(prog *syntax.Prog, set []int, r rune) []int {
	var next []int
	for _, pc := range set {
		inst := prog.Inst[pc]
		switch inst.Op {
		case syntax.InstRune, syntax.InstRune1, syntax.InstRuneAny, syntax.InstRuneAnyNotNL:
			if inst.MatchRune(r) {
				next = append(next, int(inst.Out))
			}
		}
	}
	return next
}

// joined: the states of all walkers in one row; for each the next ones, and a + if it is a hit.
func joined(walkers []walker) ([][4]int, []byte) {
	var next [][4]int
	var hit []byte
	for _, w := range walkers {
		before := len(next)
		for i, to := range w.next {
			for l := range to {
				to[l] += before
			}
			next = append(next, to)
			hit = append(hit, map[bool]byte{false: '-', true: '+'}[w.hit[i]])
		}
	}
	return next, hit
}

// kindsOf: for each kind the states of all walkers, one byte each, from which its words lead to a hit; and whether there are at most so many.
func kindsOf(walkers []walker, most int) ([]string, bool) {
	next, empty := joined(walkers)
	kinds := []string{string(empty)}
	seen := map[string]bool{kinds[0]: true}
	for i := 0; i < len(kinds); i++ {
		for l := range 4 {
			k := make([]byte, len(next))
			for q := range next {
				k[q] = kinds[i][next[q][l]]
			}
			if !seen[string(k)] {
				seen[string(k)] = true
				kinds = append(kinds, string(k))
			}
		}
		if len(kinds) > most {
			return nil, false
		}
	}
	return kinds, true
}

// classesOf: two states of a walker are one class just if words of no kind tell them apart.
func classesOf(w walker, kinds []string) int {
	seen := map[string]bool{}
	for q := range w.next {
		var column []byte
		for _, k := range kinds {
			column = append(column, k[q])
		}
		seen[string(column)] = true
	}
	return len(seen)
}

// sizes: how many classes, over all rules, and how many kinds; false if there are too many kinds to go on (far more than MaxKinds).
func sizes(s string) (int, int, bool) {
	var walkers []walker
	classes := 0
	for _, line := range strings.Split(strings.TrimSuffix(s, "\n"), "\n") {
		w := newWalker(line)
		kinds, ok := kindsOf([]walker{w}, 200)
		if !ok {
			return 0, 0, false
		}
		classes += classesOf(w, kinds)
		walkers = append(walkers, w)
	}
	kinds, ok := kindsOf(walkers, 200)
	return classes, len(kinds), ok
}

func checkBig(t *testing.T, s string, want bool) {
	t.Helper()
	x, r, e := machine.Compile(s, 200)
	if (e == api.ErrBig) != want {
		t.Errorf("Compile(%q, 200) = .., %d; is it ErrBig: %v", s, e, want)
	}
	if want && (x != nil || r != (api.Refusal{})) {
		t.Errorf("Compile(%q, 200) = %v, %v, ErrBig", s, x, r)
	}
}

func TestP6Edges(t *testing.T) {
	for _, c := range []struct {
		s       string
		classes int
		kinds   int
	}{
		// Classes: MaxAutos and one more.
		{great + great + great, 60, 19},
		{great + great + great + "a>B/[^abcd]\n", 61, 19},
		{great + great + as(17) + "a>B/[^abcd]\n", 60, 19},
		{great + great + great + "a>b\n", 63, 19},
		{great + great + as(15) + "a>b\n", 60, 19},
		{great + great + as(16) + "a>b\n", 61, 19},
		{great + great + as(15) + "a>b/c*\n", 60, 19},
		{great + great + as(16) + "a>b/c*\n", 61, 19},
		{great + great + as(13) + "a>b/(ba|ca)\n", 60, 21},
		{great + great + as(14) + "a>b/(ba|ca)\n", 61, 21},
		{great + great + as(14) + "a>b/(ba)*c\n", 60, 21},
		{great + great + as(15) + "a>b/(ba)*c\n", 61, 21},
		// Kinds: MaxKinds and one more.
		{great + "bbbb>B/b\n", 27, 24},
		{great + "bbbb>B/bb\n", 28, 25},
		{as(8) + "bbbb>B/bbbb\ncccc>B/c\nddd>B\n", 32, 25},
		{as(8) + "bbbb>B/bbbb\ncccc>B/c\ndd>B\n", 31, 24},
		{"a>B/...d\n", 7, 24},
		{"aaaa>b/.*a....a[^a]\n", 54, 23},
		{"aa>B/...d\n", 8, 32},
	} {
		classes, kinds, ok := sizes(c.s)
		if !ok || classes != c.classes || kinds != c.kinds {
			t.Errorf("%q has %d classes and %d kinds, want %d, %d", c.s, classes, kinds, c.classes, c.kinds)
		}
		checkBig(t, c.s, c.classes > 60 || c.kinds > 24)
	}
}

func TestP6Examples(t *testing.T) {
	for _, s := range []string{
		"a>B\n", "a>b/c\n", "a>aA/c\n", "ab>C\na>D\n", "a>D\nab>C\n", "ab>C\nab>D\n", "ab>C/d\nab>D\n", "ab>C/d\na>D\n", "a>B/.b\n", "a>B/b*c\n", "a>aB/b*c\n", "a>B/.*d\n", "a>b/c*\n", "a>B/[^abcd]\n", "a>\nb>BB\n",
		"a>b/\n", "a>b/c**\n", "a>b/()|(c|)\n", "a>b/[abcd]\n",
	} {
		checkBig(t, s, false)
	}
	for _, limit := range []int{1, 200} {
		checkRefused(t, great+great+great+"a>b\n", limit, api.ErrBig, 0)
	}
}

// TestP6OneRuleAlone: one rule may be too many classes by itself.
func TestP6OneRuleAlone(t *testing.T) {
	for _, context := range []string{".*a.....b", ".*a..........b", "(.*a)*.......b", "..........d", "............."} {
		if classes, kinds, ok := sizes("a>A/" + context + "\n"); ok {
			checkBig(t, "a>A/"+context+"\n", classes > 60 || kinds > 24)
		} else {
			checkBig(t, "a>A/"+context+"\n", true)
		}
	}
}

// anyContext: a context out of the grammar, cut off at no byte.
func anyContext(rng *rand.Rand, depth int, bytes int) string {
	var c string
	for range rng.Intn(6) {
		part := []string{"a", "a", "b", "c", "d", ".", "[ab]", "[^a]", "[bcd]", "|", "[^abcd]"}[rng.Intn(11)]
		if depth > 0 && rng.Intn(4) == 0 {
			part = "(" + anyContext(rng, depth-1, bytes-2) + ")"
		}
		if part != "|" && rng.Intn(4) == 0 {
			part += "*"
		}
		if len(c)+len(part) <= bytes {
			c += part
		}
	}
	return c
}

func anyRules(rng *rand.Rand) string {
	s := ""
	for range 1 + rng.Intn(4) {
		from := "abcd"[rng.Intn(4):][:1] + strings.Repeat("a", rng.Intn(4))
		if rng.Intn(2) == 0 {
			s += as(10 + rng.Intn(9))
		} else {
			s += from + ">A/" + anyContext(rng, 3, 14) + "\n"
		}
	}
	return s
}

func TestP6AnyRules(t *testing.T) {
	t.Parallel()
	rng := rand.New(rand.NewSource(6))
	small, manyClasses, manyKinds, edge := 0, 0, 0, 0
	for range 8000 {
		s := anyRules(rng)
		classes, kinds, ok := sizes(s)
		checkBig(t, s, !ok || classes > 60 || kinds > 24)
		switch {
		case !ok || kinds > 24:
			manyKinds++
		case classes > 60:
			manyClasses++
		default:
			small++
		}
		if ok && (kinds <= 24 && (classes == 60 || classes == 61) || classes <= 60 && (kinds == 24 || kinds == 25)) {
			edge++
		}
	}
	if small < 100 || manyClasses < 100 || manyKinds < 100 || edge < 100 {
		t.Errorf("rules are not of all sorts: %d, %d, %d, %d", small, manyClasses, manyKinds, edge)
	}
}

// TestP6ByWords: small rules, with classes and kinds counted by the document's words alone: over all words of some letters, by what Go's regexp finds.
func TestP6ByWords(t *testing.T) {
	words := wordsTo(3)
	for _, s := range []string{"a>b\n", "a>b/c\n", "a>b/b*c\n", "ab>C/d\na>D\n", "a>B/.b\n", "a>B/(ba)*c\n", "a>B/[^abcd]\nb>B/a|c\n"} {
		var finds []*regexp.Regexp
		for _, line := range strings.Split(strings.TrimSuffix(s, "\n"), "\n") {
			from, rest, _ := strings.Cut(line, ">")
			_, context, _ := strings.Cut(rest, "/")
			finds = append(finds, regexp.MustCompile("^"+from+"(?:"+context+")"))
		}
		classes := 0
		for _, find := range finds {
			classes += countRows(words, func(p string, z string) []bool { return []bool{find.MatchString(p + z)} })
		}
		kinds := countRows(words, func(y string, p string) []bool {
			var row []bool
			for _, find := range finds {
				row = append(row, find.MatchString(p+y))
			}
			return row
		})
		gotClasses, gotKinds, ok := sizes(s)
		if !ok || gotClasses != classes || gotKinds != kinds {
			t.Errorf("%q has %d classes and %d kinds, by words %d, %d", s, gotClasses, gotKinds, classes, kinds)
		}
	}
}

// countRows: how many words differ in what is found of them with some word.
func countRows(words []string, of func(string, string) []bool) int {
	seen := map[string]bool{}
	for _, w := range words {
		var row []byte
		for _, v := range words {
			for _, found := range of(w, v) {
				row = append(row, map[bool]byte{false: '-', true: '+'}[found])
			}
		}
		seen[string(row)] = true
	}
	return len(seen)
}
