package machine_test

import (
	"math/rand"
	"strings"
	"testing"

	"rewrite/api"
	"rewrite/machine"
)

// checkShown: P10's words, by what a text of a machine says from a state on.
func checkShown(t *testing.T, p plain, r *machine.Runner, state int) (string, string) {
	t.Helper()
	v, w := r.Shown()
	if !isTold(v) || !isTold(w) {
		t.Errorf("at state %d: Shown() = %.80q, %.80q", state, v, w)
		return v, w
	}
	one, other := p.whole(state, v), p.whole(state, w)
	if one != "" && other != "" && one[0] == other[0] {
		t.Errorf("at state %d: Shown() = %.80q, %.80q; of these %.20q and %.20q is said", state, v, w, one, other)
	}
	if r.State() != state || r.Pending() != p.end[state] {
		t.Errorf("Shown has moved the runner from %d to %d, %q", state, r.State(), r.Pending())
	}
	return v, w
}

// checkAllShown: at every state of a machine, before and behind Close.
func checkAllShown(t *testing.T, x *machine.Machine) {
	t.Helper()
	text := x.Text()
	p, ok := readPlain(text)
	if !ok {
		t.Fatalf("%.80q is no text of a machine", text)
	}
	for s := range x.States() {
		r, e := x.Resume(s)
		if r == nil || e != api.OK {
			t.Fatalf("Resume(%d) = %v, %d", s, r, e)
		}
		checkShown(t, p, r, s)
		if o, e := r.Close(); o != p.end[s] || e != api.OK {
			t.Errorf("of %.80q: Close() behind Shown = %q, %d", text, o, e)
		}
		checkShown(t, p, r, s)
		if _, e := r.Close(); e != api.ErrClosed {
			t.Errorf("of %.80q: Close() behind Close and Shown = %d", text, e)
		}
	}
	if x.Text() != text {
		t.Errorf("Shown has changed %.80q", text)
	}
}

func TestP10Examples(t *testing.T) {
	for _, s := range examples {
		checkAllShown(t, load(t, s))
	}
	for _, s := range []string{"a>B\n", "a>b/c\n", "a>aA/c\n", "ab>C\na>D\n", "ab>C/d\nab>D\n", "ab>C/d\na>D\n", "a>B/.b\n", "a>\nb>BB\n", "a>\nb>\nc>\nd>\n", "a>\nb>\nc>\nd>/.\n", "a>B/...d\n", "a>BBBB/.\n", "cbb>/a|..a|.....\n", "aaaa>A/a*...a\n", "b>aAA\ncbb>a/b(b*...)b.*\n"} {
		checkAllShown(t, compile(t, s))
	}
}

// TestP10AlongTexts: behind Start, Feed, wrong letters, Resume and Close.
func TestP10AlongTexts(t *testing.T) {
	for _, s := range examples {
		p, _ := readPlain(s)
		x := load(t, s)
		for _, w := range wordsTo(4) {
			r := x.Start()
			checkShown(t, p, r, 0)
			state := 0
			for i := range len(w) {
				said, next := p.walk(state, w[i:i+1])
				checkFeed(t, r, w[i:i+1], said, next, p.end[next])
				checkShown(t, p, r, next)
				state = next
			}
			r.Feed("ax")
			checkShown(t, p, r, state)
			q, _ := x.Resume(state)
			checkShown(t, p, q, state)
			r.Close()
			checkShown(t, p, r, state)
			checkShown(t, p, q, state)
			checkFeed(t, q, "", "", state, p.end[state])
		}
	}
}

func TestP10Edges(t *testing.T) {
	for _, s := range []string{
		// Nothing is ever said; nothing in the end; nothing in the end but by way of another state.
		"- -:0 -:0 -:0 -:0\n", "- a:0 a:0 a:0 a:0\n", "a -:1 a:0 a:0 a:0\n- a:0 a:0 a:0 a:0\n",
		// One letter alone parts, each of the four.
		"a A:0 a:0 a:0 a:0\n", "a a:0 A:0 a:0 a:0\n", "a a:0 a:0 A:0 a:0\n", "a a:0 a:0 a:0 A:0\n", "a -:0 -:0 -:0 b:0\n",
		// What parts is said in the end of another state, or by letters behind a silent one.
		"a -:1 a:0 a:0 a:0\nA a:0 a:0 a:0 a:0\n", "a a:0 a:0 a:0 -:1\naa a:0 a:0 A:0 a:0\n",
		// By a letter more is said than its first; what comes behind it does not count.
		"ab ac:0 ad:0 a:0 ba:0\n", "ab ac:1 ad:0 a:0 ba:0\n- a:0 b:0 c:0 d:0\n",
		// A silent way leads back.
		"a -:1 a:0 a:0 a:0\na -:0 a:0 a:0 b:2\n- a:0 b:0 c:0 d:0\n",
		chain(1), chain(200), silentChain(2, "b"), ring(200, 199), hiding(101, 99),
	} {
		checkAllShown(t, load(t, s))
	}
}

// TestP10Far: only a word of as many letters as there are states tells another thing.
func TestP10Far(t *testing.T) {
	for _, n := range []int{2, 3, 100, 200} {
		x := load(t, silentChain(n, "b"))
		checkAllShown(t, x)
		v, w := x.Start().Shown()
		if max(len(v), len(w)) < n {
			t.Errorf("of %d silent states: Shown() = %.80q, %.80q: too short", n, v, w)
		}
	}
}

func TestP10AnyMachines(t *testing.T) {
	t.Parallel()
	rng := rand.New(rand.NewSource(10))
	count, held := 0, 0
	for i := range 20000 {
		words := anyWords[rng.Intn(len(anyWords))]
		size := 1 + rng.Intn(6)
		if i%50 == 0 {
			size = 200
		}
		x, e := machine.Load(anyText(rng, size, words))
		if e != api.OK {
			continue
		}
		checkAllShown(t, x)
		count++
		if n, _ := x.MaxDelay(); n > 0 {
			held++
		}
	}
	if count < 3000 || held < 1000 {
		t.Errorf("machines are not of all sorts: %d, %d", count, held)
	}
}

func TestP10AnyRules(t *testing.T) {
	t.Parallel()
	rng := rand.New(rand.NewSource(1010))
	count := 0
	for count < 500 {
		x, _, e := machine.Compile(anyCompiled(rng, rng.Intn(2) == 0), 200)
		if e == api.OK {
			checkAllShown(t, x)
			count++
		}
	}
}

func TestP10WrongInputs(t *testing.T) {
	x, _ := machine.Load("none")
	y, _ := load(t, two).Resume(2)
	for _, r := range []*machine.Runner{nil, {}, x.Start(), y} {
		if v, w := r.Shown(); v != "" || w != "" {
			t.Errorf("Shown of a runner of no machine = %q, %q", v, w)
		}
	}
}

// TestP10LongSayings: what is said has no greatest length.
func TestP10LongSayings(t *testing.T) {
	long := strings.Repeat("ABCDabcd", 100000)
	checkAllShown(t, load(t, long+" "+long+":0 "+long+"a:0 A:0 b"+long+":0\n"))
}
