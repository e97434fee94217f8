package machine_test

import (
	"math/rand"
	"strconv"
	"strings"
	"testing"

	"rewrite/api"
	"rewrite/machine"
)

// checkDiff: P9's words, in both orders, by what the texts say of the word told; the word is answered.
func checkDiff(t *testing.T, x, y *machine.Machine) string {
	t.Helper()
	checkOneDiff(t, y, x)
	return checkOneDiff(t, x, y)
}

func checkOneDiff(t *testing.T, x, y *machine.Machine) string {
	t.Helper()
	one, other := x.Text(), y.Text()
	w, ok := x.Diff(y)
	if ok != (one != other) || !ok && w != "" {
		t.Errorf("of %.200q and %.200q: Diff = %.80q, %v", one, other, w, ok)
		return w
	}
	if ok && !isParted(one, other, w) {
		t.Errorf("of %.200q and %.200q: Diff = %.80q (%d letters), which does not part them", one, other, w, len(w))
	}
	if x.Text() != one || y.Text() != other {
		t.Errorf("Diff has changed %.200q or %.200q", one, other)
	}
	return w
}

// isParted: whether texts of machines say different things of a word that may be told.
func isParted(one, other, w string) bool {
	p, _ := readPlain(one)
	q, _ := readPlain(other)
	return isTold(w) && p.whole(0, w) != q.whole(0, w)
}

func isTold(w string) bool {
	return len(w) <= 4000 && strings.Trim(w, "abcd") == ""
}

func TestP9Alike(t *testing.T) {
	for _, s := range append([]string{chain(1), chain(2), chain(200), silentChain(200, "b"), ring(200, 100)}, examples...) {
		x := load(t, s)
		checkDiff(t, x, x)
		checkDiff(t, x, load(t, s))
		if w, ok := x.Diff(load(t, s)); w != "" || ok {
			t.Errorf("of %.80q and itself: Diff = %q, %v", s, w, ok)
		}
	}
	// Different rules, one machine; and a machine of rules with that of its text.
	for _, c := range [][2]string{{"ab>C\na>D\n", "a>D\nab>C\n"}, {"a>A\na>B\n", "a>A\n"}, {"a>b/c*\n", "a>b\n"}, {"a>B/[^abcd]\n", "b>b\n"}, {"a>a/b*c\n", "d>d\n"}, {"a>B/b|c\n", "a>B/[bc]d*\n"}} {
		x, y := compile(t, c[0]), compile(t, c[1])
		for _, z := range []*machine.Machine{y, load(t, x.Text()), load(t, y.Text())} {
			if w, ok := x.Diff(z); w != "" || ok {
				t.Errorf("of %q and %q: Diff = %q, %v", c[0], c[1], w, ok)
			}
			checkDiff(t, x, z)
		}
	}
}

// TestP9Where: machines that only some words part: each word that may be told is one of these, behind which anything may follow if it parts by a letter.
func TestP9Where(t *testing.T) {
	for _, c := range []struct{ one, other, least string }{
		// The empty word alone, and a letter alone.
		{"- a:0 b:0 c:0 d:0\n", "A a:0 b:0 c:0 d:0\n", ""},
		{"A a:0 b:0 c:0 d:0\n", "B a:0 b:0 c:0 d:0\n", ""},
		{"A a:0 b:0 c:0 d:0\n", "AA a:0 b:0 c:0 d:0\n", ""},
		{"- a:0 b:0 c:0 d:0\n", "- A:0 b:0 c:0 d:0\n", "a"},
		{"- a:0 b:0 c:0 d:0\n", "- a:0 b:0 c:0 D:0\n", "d"},
		{"- a:0 b:0 c:0 d:0\n", "- a:0 b:0 -:0 d:0\n", "c"},
		{"- a:0 bbb:0 c:0 d:0\n", "- a:0 bbB:0 c:0 d:0\n", "b"},
		{"- a:0 bbb:0 c:0 d:0\n", "- a:0 bb:0 c:0 d:0\n", "b"},
		// One state and two, that part in the second.
		{"- a:0 b:0 c:0 d:0\n", "- a:1 b:0 c:0 d:0\nA a:0 b:0 c:0 d:0\n", "a"},
		{"- a:0 b:0 c:0 d:0\n", "- a:1 b:0 c:0 d:0\n- A:1 b:0 c:0 d:0\n", "aa"},
		// The same lines but for a next state.
		{"- a:1 b:0 c:0 d:0\n- A:1 b:0 c:0 d:0\n", "- a:1 b:0 c:0 d:0\n- A:0 b:0 c:0 d:0\n", "aaa"},
		{"- a:1 b:0 c:0 d:0\n- A:1 b:0 c:0 d:0\n", "- a:1 b:0 c:0 d:0\n- A:1 b:0 c:0 d:1\n", "ada"},
		// At the last state alone.
		{chainTo(200, "B"), chainTo(200, "C"), strings.Repeat("a", 199) + "b"},
		{chainTo(200, "B"), chainTo(199, "B"), strings.Repeat("a", 198) + "b"},
		{chainTo(200, "bB"), chainTo(200, "bC"), strings.Repeat("a", 199) + "b"},
		{chain(200), "- a:0 b:0 c:0 d:0\n", strings.Repeat("a", 199) + "b"},
		// The longest way there is from the beginning to where rings of 199 and 200 states part.
		{ring(199, 198), ring(200, 198), strings.Repeat("a", 398)},
		{ring(7, 6), ring(8, 6), strings.Repeat("a", 14)},
	} {
		w := checkDiff(t, load(t, c.one), load(t, c.other))
		if !hasInside(w, c.least) {
			t.Errorf("of %.80q and %.80q: Diff = %.80q, but %.80q is the least that parts them", c.one, c.other, w, c.least)
		}
	}
}

// hasInside: whether the letters of a word stand in another in their order.
func hasInside(w, part string) bool {
	for i := range len(w) {
		if part != "" && w[i] == part[0] {
			part = part[1:]
		}
	}
	return part == ""
}

// ring: n states, by letter a from each to the next and from the last to the first; one of them says A of it.
func ring(n int, at int) string {
	var s strings.Builder
	for i := range n {
		a := "a"
		if i == at {
			a = "A"
		}
		q := strconv.Itoa(i)
		s.WriteString("- " + a + ":" + strconv.Itoa((i+1)%n) + " b:" + q + " c:" + q + " d:" + q + "\n")
	}
	return s.String()
}

// TestP9SaidEarlier: one machine says by a letter what the other says later; few words then show a difference.
func TestP9SaidEarlier(t *testing.T) {
	for _, c := range [][2]string{
		// After a the one has said A; the other may say it yet, or in the end.
		{"- A:0 b:0 c:0 d:0\n", "- -:1 b:0 c:0 d:0\nA A:1 Ab:0 Ac:0 d:0\n"},
		{"- A:1 b:0 c:0 d:0\n- A:1 b:0 c:0 D:0\n", "- -:1 b:0 c:0 d:0\nA A:1 Ab:0 Ac:0 d:0\n"},
		{"- AB:0 b:0 c:0 d:0\n", "- A:1 b:0 c:0 d:0\nB BA:1 Bb:0 Bc:0 d:0\n"},
		// Only behind a way of silence is another thing said, or nothing.
		{"- A:0 b:0 c:0 d:0\n", "- -:1 b:0 c:0 d:0\nA A:1 Ab:0 Ac:0 -:2\nAd AdA:1 Adb:0 Adc:0 d:0\n"},
		{"- A:0 b:0 c:0 d:0\n", "- -:1 b:0 c:0 d:0\nA A:1 Ab:0 Ac:0 -:2\n- A:1 Ab:0 Ac:0 Ad:0\n"},
		// Where the end alone parts.
		{"- A:0 b:0 c:0 d:0\n", "- -:1 b:0 c:0 d:0\n- A:1 Ab:0 Ac:0 Ad:0\n"},
	} {
		checkDiff(t, load(t, c[0]), load(t, c[1]))
	}
	// The way to where they part is long, and so is the way of silence behind it.
	w := checkDiff(t, load(t, hiding(101, 99)), load(t, chainTo(101, "B")))
	if !hasInside(w, strings.Repeat("a", 100)+"b"+strings.Repeat("a", 98)+"b") {
		t.Errorf("Diff = %q: too short to part them", w)
	}
}

// hiding: as chainTo(k, "B"), but what the last of the k states says of b is held back along n states, of which the last may say another thing; n is less than k.
func hiding(k int, n int) string {
	s := strings.TrimSuffix(chainTo(k, "B"), "B:0 c:0 d:0\n") + "-:" + strconv.Itoa(k) + " c:0 d:0\n"
	held := "B"
	for i := range n - 1 {
		s += held + " -:" + strconv.Itoa(k+i+1) + " " + held + "b:0 " + held + "c:0 " + held + "d:0\n"
		held += "a"
	}
	return s + held + " " + held + "a:" + strconv.Itoa(n) + " b:0 " + held + "c:0 " + held + "d:0\n"
}

func TestP9OfRules(t *testing.T) {
	rules := []string{"a>B\n", "a>b/c\n", "a>aA/c\n", "ab>C\na>D\n", "a>D\nab>C\n", "ab>C\nab>D\n", "ab>C/d\nab>D\n", "ab>C/d\na>D\n", "a>B/.b\n", "a>B/.[ab]\n", "a>b/c*\n", "a>B/[^abcd]\n", "a>\nb>BB\n", "a>\nb>\nc>\nd>\n", "a>\nb>\nc>\nd>/.\n", "a>B/...d\n", "a>B/...c\n", "aaaa>A/a*...a\n", "aaaa>AA/a*...a\n", "b>aAA\ncbb>a/b(b*...)b.*\n", "cbb>/a|..a|.....\n"}
	var machines []*machine.Machine
	for _, s := range rules {
		machines = append(machines, compile(t, s))
	}
	for _, s := range examples {
		machines = append(machines, load(t, s))
	}
	for _, x := range machines {
		for _, y := range machines {
			checkDiff(t, x, y)
		}
	}
}

// anyText: what may be the text of a machine of n states, numbered as they are met; of few words that may be said, so that machines are alike in much.
func anyText(rng *rand.Rand, n int, words []string) string {
	met := 1
	var s strings.Builder
	for i := 0; i < met; i++ {
		s.WriteString(words[rng.Intn(len(words))])
		for range 4 {
			next := rng.Intn(met)
			if met < n && (met == i+1 || rng.Intn(3) == 0) {
				next = met
				met++
			}
			s.WriteString(" " + words[rng.Intn(len(words))] + ":" + strconv.Itoa(next))
		}
		s.WriteString("\n")
	}
	return s.String()
}

// changed: a text of a machine with one word or one number in it changed.
func changed(rng *rand.Rand, s string, words []string) string {
	lines := strings.Split(strings.TrimSuffix(s, "\n"), "\n")
	i := rng.Intn(len(lines))
	fields := strings.Split(lines[i], " ")
	k := rng.Intn(5)
	word, next, isLetter := strings.Cut(fields[k], ":")
	if isLetter && rng.Intn(2) == 0 {
		next = strconv.Itoa(rng.Intn(len(lines)))
	} else {
		word = words[rng.Intn(len(words))]
	}
	fields[k] = word
	if isLetter {
		fields[k] += ":" + next
	}
	lines[i] = strings.Join(fields, " ")
	return strings.Join(lines, "\n") + "\n"
}

// anyWords: sorts of words that may be said; of the fewer the sayings are, the more is alike.
var anyWords = [][]string{
	{"-", "a"}, {"-", "-", "-", "a"}, {"-", "a", "b"}, {"-", "-", "a", "aa", "aaa"}, {"-", "a", "ab", "abab"}, {"a", "aa", "b"}, {"-", "A", "B", "AB", "ABC", "d"},
}

func TestP9AnyMachines(t *testing.T) {
	t.Parallel()
	rng := rand.New(rand.NewSource(9))
	parted, alike, far := 0, 0, 0
	for range 20000 {
		words := anyWords[rng.Intn(len(anyWords))]
		size := []int{1, 2, 3, 5, 20}[rng.Intn(5)]
		one := anyText(rng, 1+rng.Intn(size), words)
		other := anyText(rng, 1+rng.Intn(size), words)
		if rng.Intn(2) == 0 {
			other = changed(rng, one, words)
		}
		x, e := machine.Load(one)
		y, f := machine.Load(other)
		if e != api.OK || f != api.OK {
			continue
		}
		w := checkDiff(t, x, y)
		parted++
		if one == other {
			alike++
		}
		if len(w) > 3 {
			far++
		}
	}
	if parted < 3000 || alike < 100 || far < 300 {
		t.Errorf("machines are not of all sorts: %d, %d, %d", parted, alike, far)
	}
}

// TestP9AnyGreatMachines: of up to MaxStates states, that part in one place.
func TestP9AnyGreatMachines(t *testing.T) {
	t.Parallel()
	rng := rand.New(rand.NewSource(99))
	count := 0
	for range 3000 {
		words := anyWords[rng.Intn(len(anyWords))]
		one := anyText(rng, 190+rng.Intn(11), words)
		x, e := machine.Load(one)
		if e != api.OK {
			continue
		}
		y, e := machine.Load(changed(rng, one, words))
		if e == api.OK {
			checkDiff(t, x, y)
			count++
		}
	}
	if count < 200 {
		t.Errorf("too few machines: %d", count)
	}
}

func TestP9AnyRules(t *testing.T) {
	t.Parallel()
	rng := rand.New(rand.NewSource(999))
	var machines []*machine.Machine
	for len(machines) < 150 {
		x, _, e := machine.Compile(anyCompiled(rng, rng.Intn(2) == 0), 200)
		if e == api.OK {
			machines = append(machines, x)
		}
	}
	for i, x := range machines {
		for _, y := range machines[:i+1] {
			checkDiff(t, x, y)
		}
	}
}

func TestP9WrongInputs(t *testing.T) {
	x := load(t, two)
	for _, none := range []*machine.Machine{nil, {}} {
		for _, y := range []*machine.Machine{nil, {}, x} {
			if w, ok := none.Diff(y); w != "" || ok {
				t.Errorf("Diff of no machine = %q, %v", w, ok)
			}
			if w, ok := y.Diff(none); w != "" || ok {
				t.Errorf("Diff with no machine = %q, %v", w, ok)
			}
		}
	}
	bad, _ := machine.Load(two + "x")
	if w, ok := x.Diff(bad); w != "" || ok {
		t.Errorf("Diff with a machine that did not load = %q, %v", w, ok)
	}
}

// TestP9LongSayings: what is said has no greatest length.
func TestP9LongSayings(t *testing.T) {
	long := strings.Repeat("ABCDabcd", 100000)
	for _, c := range [][2]string{{"A", "B"}, {"A", ""}, {"", "AAA"}, {"", ""}} {
		checkDiff(t, load(t, "- "+long+c[0]+":0 b:0 c:0 d:0\n"), load(t, "- "+long+c[1]+":0 b:0 c:0 d:0\n"))
		checkDiff(t, load(t, long+c[0]+" a:0 b:0 c:0 d:0\n"), load(t, long+c[1]+" a:0 b:0 c:0 d:0\n"))
	}
}
