package machine_test

import (
	"strings"
	"testing"
)

func checkDelay(t *testing.T, s string, n int, word string) {
	t.Helper()
	x := load(t, s)
	for range 2 {
		if m, w := x.MaxDelay(); m != n || w != word {
			t.Errorf("of %.80q: MaxDelay() = %d, %q, want %d, %q", s, m, w, n, word)
		}
	}
}

func TestP4Examples(t *testing.T) {
	checkDelay(t, one, 0, "")
	checkDelay(t, two, 1, "a")
	checkDelay(t, early, 0, "")
	checkDelay(t, longest, 1, "a")
	checkDelay(t, three, 1, "a")
	checkDelay(t, backward, 2, "ab")
	checkDelay(t, six, 2, "aa")
	checkDelay(t, dropping, 0, "")
}

func TestP4WhichState(t *testing.T) {
	// State 0 itself.
	checkDelay(t, "ABC a:0 b:0 c:0 d:0\n", 3, "")
	checkDelay(t, "AB a:1 b:0 c:0 d:0\nCD a:0 b:0 c:0 d:0\n", 2, "")
	checkDelay(t, "AB a:1 b:0 c:0 d:0\nABC a:0 b:0 c:0 d:0\n", 3, "a")
	// Of states 1 and 2, which say as many, the least.
	checkDelay(t, "- a:1 b:2 c:0 d:0\nA a:0 b:0 c:0 d:0\nB a:0 b:0 c:0 d:0\n", 1, "a")
	// Letters are counted, not compared.
	checkDelay(t, "- a:1 b:2 c:0 d:0\nD a:0 b:0 c:0 d:0\nAA a:0 b:0 c:0 d:0\n", 2, "b")
}

func TestP4WhichWord(t *testing.T) {
	// State 2 is met by aa too, but b is shorter.
	checkDelay(t, "- a:1 b:2 c:0 d:0\n- A:2 b:0 c:0 d:0\nD a:0 b:0 c:0 d:0\n", 1, "b")
	// State 3 is met by ad and by ba.
	checkDelay(t, "- a:1 b:2 c:0 d:0\n- A:0 b:0 c:0 d:3\n- B:3 b:0 c:0 d:0\nD a:0 b:0 c:0 d:0\n", 1, "ad")
	// State 1 is met by b, c and d.
	checkDelay(t, "- a:0 b:1 c:1 d:1\nD a:0 b:0 c:0 d:0\n", 1, "b")
	checkDelay(t, "- a:0 b:0 c:0 d:1\nD a:0 b:0 c:0 d:0\n", 1, "d")
	far := strings.TrimSuffix(chain(200), "- a:0 B:0 c:0 d:0\n") + "D a:0 b:0 c:0 d:0\n"
	checkDelay(t, far, 1, strings.Repeat("a", 199))
}

func TestP4AgainstAllWords(t *testing.T) {
	words := wordsTo(4)
	for _, s := range examples {
		p, _ := readPlain(s)
		state := 0
		for q := range p.end {
			if len(p.end[q]) > len(p.end[state]) {
				state = q
			}
		}
		for _, w := range words {
			if _, q := p.walk(0, w); q == state {
				checkDelay(t, s, len(p.end[state]), w)
				break
			}
		}
	}
}
