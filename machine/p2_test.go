package machine_test

import (
	"strconv"
	"strings"
	"testing"

	"rewrite/api"
	"rewrite/machine"
)

func checkGood(t *testing.T, s string, states int) {
	t.Helper()
	x, e := machine.Load(s)
	if x == nil || e != api.OK {
		t.Errorf("Load(%.80q) = %v, %d", s, x, e)
		return
	}
	if x.Text() != s || x.States() != states {
		t.Errorf("Load(%.80q): Text() = %.80q, States() = %d, want %d", s, x.Text(), x.States(), states)
	}
}

func checkBad(t *testing.T, s string) {
	t.Helper()
	if x, e := machine.Load(s); x != nil || e != api.ErrText {
		t.Errorf("Load(%.80q) = %v, %d, want ErrText", s, x, e)
	}
}

func TestP2Examples(t *testing.T) {
	for _, s := range examples {
		checkGood(t, s, strings.Count(s, "\n"))
	}
	checkGood(t, "- b:0 b:0 c:0 d:0\n", 1)
	checkGood(t, "- a:0 b:0 c:0 d:0\n", 1)
	checkBad(t, "- B:1 b:0 c:0 d:0\n- B:1 b:0 c:0 d:0\n")
	checkBad(t, "B B:0 Bb:0 Bc:0 Bd:0\n")
	checkBad(t, "- B:0 b:0 c:0 d:0\na a:0 ab:0 bc:0 ad:0\n")
}

func TestP2Form(t *testing.T) {
	for _, s := range []string{
		"", "\n", " ", "-", "-\n", "- \n", "- a:0\n", "- a:0 b:0 c:0\n", "- a:0 b:0 c:0 d:0", "- a:0 b:0 c:0 d:0 a:0\n",
		"- a:0 b:0 c:0 d:0 \n", " - a:0 b:0 c:0 d:0\n", "-  a:0 b:0 c:0 d:0\n", "- a:0\tb:0 c:0 d:0\n", "- a :0 b:0 c:0 d:0\n", "- a: 0 b:0 c:0 d:0\n", "- a0 b:0 c:0 d:0\n", "- a::0 b:0 c:0 d:0\n",
		"- a:0 b:0 c:0 d:0\r\n", "\n- a:0 b:0 c:0 d:0\n", "- a:0 b:0 c:0 d:0\n\n", "- a:0 b:0 c:0 d:0\n ", "- a:0 b:0 c:0 d:0\n-",
		" a:0 b:0 c:0 d:0\n", "- :0 b:0 c:0 d:0\n", "-- a:0 b:0 c:0 d:0\n", "-a a:0 b:0 c:0 d:0\n", "a- a:0 b:0 c:0 d:0\n", "- a-:0 b:0 c:0 d:0\n", "- -a:0 b:0 c:0 d:0\n", "- --:0 b:0 c:0 d:0\n",
		"e a:0 b:0 c:0 d:0\n", "E a:0 b:0 c:0 d:0\n", "- a:0 b:0 c:0 e:0\n", "- a:0 b:0 c:0 E:0\n", "- `:0 b:0 c:0 d:0\n", "- @:0 b:0 c:0 d:0\n", "- a\x00:0 b:0 c:0 d:0\n", "- é:0 b:0 c:0 d:0\n",
		"- a: b:0 c:0 d:0\n", "- a:00 b:0 c:0 d:0\n", "- a:+0 b:0 c:0 d:0\n", "- a:-0 b:0 c:0 d:0\n", "- a:0x0 b:0 c:0 d:0\n", "- a:0. b:0 c:0 d:0\n", "- a:/ b:0 c:0 d:0\n", "- a:; b:0 c:0 d:0\n", "- a:0 b:0 c:0 d:\n",
		"- a:01 b:0 c:0 d:0\n- A:0 b:0 c:0 d:0\n",
	} {
		checkBad(t, s)
	}
	checkGood(t, "AaBbCcDd dDcCbBaA:0 A:0 B:0 D:0\n", 1)
}

func TestP2NextStates(t *testing.T) {
	checkGood(t, "- a:1 b:0 c:0 d:0\n- A:1 b:0 c:0 d:0\n", 2)
	for _, number := range []string{"2", "3", "10", "199", "200", "201", "4294967296", "4294967297", "18446744073709551616", "18446744073709551617", strings.Repeat("1", 1000)} {
		checkBad(t, "- a:1 b:0 c:0 d:0\n- A:"+number+" b:0 c:0 d:0\n")
		checkBad(t, "- a:"+number+" b:0 c:0 d:0\n")
	}
}

func TestP2Numbering(t *testing.T) {
	checkGood(t, "- a:1 b:2 c:0 d:0\n- A:1 b:0 c:0 d:0\n- B:2 b:0 c:0 d:0\n", 3)
	checkBad(t, "- a:2 b:1 c:0 d:0\n- A:1 b:0 c:0 d:0\n- B:2 b:0 c:0 d:0\n")
	checkGood(t, "- a:1 b:2 c:0 d:0\n- A:3 b:0 c:0 d:0\n- B:4 b:0 c:0 d:0\n- C:0 b:0 c:0 d:0\n- D:0 b:0 c:0 d:0\n", 5)
	checkBad(t, "- a:1 b:2 c:0 d:0\n- A:4 b:0 c:0 d:0\n- B:3 b:0 c:0 d:0\n- C:0 b:0 c:0 d:0\n- D:0 b:0 c:0 d:0\n")
	// State by state, not along the first letter.
	checkBad(t, "- a:1 b:3 c:0 d:0\n- A:2 b:0 c:0 d:0\n- B:0 b:0 c:0 d:0\n- C:0 b:0 c:0 d:0\n")
	// A state that is met from itself alone, and two that are met from each other alone.
	checkBad(t, "- a:0 b:0 c:0 d:0\n- A:1 b:0 c:0 d:0\n")
	checkBad(t, "- a:0 b:0 c:0 d:0\n- A:2 b:0 c:0 d:0\n- B:1 b:0 c:0 d:0\n")
}

func TestP2NothingHeldBack(t *testing.T) {
	checkBad(t, "a a:0 a:0 a:0 a:0\n")
	checkBad(t, "a -:0 -:0 -:0 -:0\n")
	checkGood(t, "- -:0 -:0 -:0 -:0\n", 1)
	checkGood(t, "- a:0 a:0 a:0 a:0\n", 1)
	checkGood(t, "a A:0 a:0 a:0 a:0\n", 1)
	checkGood(t, "a -:0 -:0 -:0 b:0\n", 1)
	// What parts comes only by way of another state that has said nothing till then.
	checkGood(t, "a -:1 a:0 a:0 a:0\n- a:0 a:0 a:0 a:0\n", 2)
	checkGood(t, "a -:1 a:0 a:0 a:0\nA a:0 a:0 a:0 a:0\n", 2)
	checkBad(t, "a -:1 a:0 a:0 a:0\naa a:0 a:0 a:0 ab:0\n")
	// The whole is early at state 0, but not at state 1.
	checkBad(t, "- -:1 b:0 c:0 d:0\na aa:1 ab:0 ac:0 ad:0\n")
	checkGood(t, silentChain(200, "b"), 200)
	checkBad(t, silentChain(200, "a"))
}

// silentChain: only the last of n states may say what does not begin with a.
func silentChain(n int, last string) string {
	var s strings.Builder
	for i := range n - 1 {
		s.WriteString("a -:" + strconv.Itoa(i+1) + " a:0 ab:0 ac:0\n")
	}
	s.WriteString("a aa:0 " + last + ":0 a:0 a:0\n")
	return s.String()
}

func TestP2NoTwoStatesAlike(t *testing.T) {
	checkBad(t, "- a:1 b:0 c:0 d:0\n- a:0 b:1 c:0 d:0\n")
	checkGood(t, "- a:1 b:0 c:0 d:0\nA a:0 b:1 c:0 d:0\n", 2)
	checkGood(t, "- a:1 b:0 c:0 d:0\n- a:0 b:1 c:0 D:0\n", 2)
	// States 1 and 2 say the same at once and lead to 3 and 4, which do too.
	checkBad(t, "- a:1 b:2 c:0 d:0\n- A:3 b:0 c:0 d:0\n- A:4 b:0 c:0 d:0\n- B:0 b:0 c:0 d:0\n- B:0 b:0 c:0 d:0\n")
	checkGood(t, "- a:1 b:2 c:0 d:0\n- A:3 b:0 c:0 d:0\n- A:4 b:0 c:0 d:0\n- B:0 b:0 c:0 d:0\n- B:0 b:0 c:0 dd:0\n", 5)
	checkGood(t, chain(200), 200)
	checkBad(t, chainTo(200, "b"))
	checkBad(t, chainTo(2, "b"))
}

func TestP2Size(t *testing.T) {
	checkGood(t, chain(1), 1)
	checkGood(t, chain(api.MaxStates-1), api.MaxStates-1)
	checkGood(t, chain(api.MaxStates), api.MaxStates)
	checkBad(t, chain(api.MaxStates+1))
	checkBad(t, chain(api.MaxStates+100))
	checkBad(t, chain(2000))
	long := strings.Repeat("ABCDabcd", 200000)
	checkGood(t, "- "+long+":0 b:0 c:0 "+long+"a:0\n", 1)
	checkBad(t, "- "+long+":0 b:0 c:0 "+long+"e:0\n")
}

func TestP2TextStaysWhateverRunnersDo(t *testing.T) {
	x := load(t, six)
	r := x.Start()
	r.Feed("aaaab")
	r.Close()
	if x.Text() != six || x.States() != 6 {
		t.Errorf("Text() = %q, States() = %d", x.Text(), x.States())
	}
}

// isMachine: P2 by its words; what is said is tried for all words given.
func isMachine(s string, words []string) bool {
	p, ok := readPlain(s)
	if !ok {
		return false
	}
	n := len(p.end)
	order := []int{0}
	for i := 0; i < len(order); i++ {
		for _, q := range p.next[order[i]] {
			if !contains(order, q) {
				order = append(order, q)
			}
		}
	}
	for i, q := range order {
		if i != q {
			return false
		}
	}
	if len(order) != n || n > api.MaxStates {
		return false
	}
	for q := range n {
		if p.allBeginAlike(q, words) {
			return false
		}
		for o := range q {
			if p.sayTheSame(q, o, words) {
				return false
			}
		}
	}
	return true
}

func contains(list []int, n int) bool {
	for _, m := range list {
		if m == n {
			return true
		}
	}
	return false
}

func (p plain) allBeginAlike(q int, words []string) bool {
	begin := p.end[q]
	for _, w := range words {
		said := p.whole(q, w)
		if begin == "" || said == "" || said[0] != begin[0] {
			return false
		}
	}
	return true
}

func (p plain) sayTheSame(q, o int, words []string) bool {
	for _, w := range words {
		if p.whole(q, w) != p.whole(o, w) {
			return false
		}
	}
	return true
}

func checkAgainstWords(t *testing.T, s string, words []string) bool {
	t.Helper()
	good := isMachine(s, words)
	if good {
		checkGood(t, s, strings.Count(s, "\n"))
	} else {
		checkBad(t, s)
	}
	return good
}

func TestP2OneByteChanged(t *testing.T) {
	words := wordsTo(5)
	for _, s := range examples {
		for i := range len(s) {
			checkAgainstWords(t, s[:i], words)
			checkAgainstWords(t, s[:i]+s[i+1:], words)
			for _, c := range []byte("\x00\n\r -0123456:;@ABCDE`abcde\xff") {
				checkAgainstWords(t, s[:i]+string([]byte{c})+s[i+1:], words)
				checkAgainstWords(t, s[:i]+string([]byte{c})+s[i:], words)
			}
		}
	}
}

func TestP2ManySmallMachines(t *testing.T) {
	t.Parallel()
	words := wordsTo(6)
	seed := uint32(1)
	pick := func(n int) int {
		seed = seed*1664525 + 1013904223
		return int(seed>>16) % n
	}
	said := []string{"-", "-", "a", "a", "a", "b", "aa"}
	good := 0
	for range 30000 {
		n := 1 + pick(4)
		var s strings.Builder
		for range n {
			s.WriteString(said[pick(len(said))])
			for range 4 {
				s.WriteString(" " + said[pick(len(said))] + ":" + strconv.Itoa(pick(n)))
			}
			s.WriteString("\n")
		}
		if checkAgainstWords(t, s.String(), words) {
			good++
		}
	}
	if good < 1000 {
		t.Errorf("only %d machines were good: too few to tell", good)
	}
}
