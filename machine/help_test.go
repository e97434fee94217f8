package machine_test

import (
	"regexp"
	"strconv"
	"strings"
	"testing"

	"rewrite/api"
	"rewrite/machine"
)

// Texts of the document's examples.
const (
	one      = "- B:0 b:0 c:0 d:0\n"
	two      = "- -:1 b:0 c:0 d:0\na a:1 ab:0 bc:0 ad:0\n"
	early    = "- a:1 b:0 c:0 d:0\n- a:1 b:0 Ac:0 d:0\n"
	longest  = "- -:1 b:0 c:0 d:0\nD D:1 C:0 Dc:0 Dd:0\n"
	firstOf  = "- -:1 b:0 c:0 d:0\na a:1 C:0 ac:0 ad:0\n"
	three    = "- -:1 b:0 c:0 d:0\na a:1 -:2 ac:0 ad:0\nD D:1 Db:0 Dc:0 Cd:0\n"
	backward = "- -:1 b:0 c:0 d:0\nD D:1 -:2 Dc:0 Dd:0\nDb Db:1 Dbb:0 Dbc:0 Cd:0\n"
	six      = "- -:1 b:0 c:0 d:0\na -:2 -:3 -:4 -:5\naa a:2 B:3 a:4 a:5\nab ab:1 Bbb:0 abc:0 abd:0\nac ac:1 Bcb:0 acc:0 acd:0\nad ad:1 Bdb:0 adc:0 add:0\n"
	dropping = "- -:0 BB:0 c:0 d:0\n"
)

var examples = []string{one, two, early, longest, firstOf, three, backward, six, dropping}

func load(t *testing.T, s string) *machine.Machine {
	t.Helper()
	x, e := machine.Load(s)
	if x == nil || e != api.OK {
		t.Fatalf("Load(%.80q) = %v, %d", s, x, e)
	}
	return x
}

// plain: a machine as the document's words describe its text, read by other means than the program's.
type plain struct {
	end  []string
	said [][4]string
	next [][4]int
}

var lineForm = regexp.MustCompile(`^(-|[a-dA-D]+)((?: (?:-|[a-dA-D]+):(?:0|[1-9][0-9]*)){4})$`)

func readPlain(s string) (plain, bool) {
	var p plain
	if !strings.HasSuffix(s, "\n") {
		return p, false
	}
	lines := strings.Split(strings.TrimSuffix(s, "\n"), "\n")
	for _, line := range lines {
		if !lineForm.MatchString(line) {
			return p, false
		}
		fields := strings.Split(line, " ")
		var said [4]string
		var next [4]int
		for i, f := range fields[1:] {
			w, number, _ := strings.Cut(f, ":")
			n, err := strconv.Atoi(number)
			if err != nil || n >= len(lines) {
				return p, false
			}
			said[i] = strings.Trim(w, "-")
			next[i] = n
		}
		p.end = append(p.end, strings.Trim(fields[0], "-"))
		p.said = append(p.said, said)
		p.next = append(p.next, next)
	}
	return p, true
}

// walk: what is said from a state on by the letters of a word, and the state behind it.
func (p plain) walk(q int, w string) (string, int) {
	var said strings.Builder
	for i := range len(w) {
		l := w[i] - 'a'
		said.WriteString(p.said[q][l])
		q = p.next[q][l]
	}
	return said.String(), q
}

// whole: what is said from a state on of a word and in the end.
func (p plain) whole(q int, w string) string {
	said, q := p.walk(q, w)
	return said + p.end[q]
}

// wordsTo: all words of at most n letters, the shorter first, those of one length in the order of letters.
func wordsTo(n int) []string {
	words := []string{""}
	from := 0
	for range n {
		to := len(words)
		for _, w := range words[from:to] {
			for _, l := range []string{"a", "b", "c", "d"} {
				words = append(words, w+l)
			}
		}
		from = to
	}
	return words
}

// chain: a machine of n states in a row, told apart by the last alone.
func chain(n int) string {
	return chainTo(n, "B")
}

// chainTo: a row of n states; the last says the word given when b comes, the others b.
func chainTo(n int, last string) string {
	var s strings.Builder
	for i := range n {
		if i < n-1 {
			s.WriteString("- a:" + strconv.Itoa(i+1) + " b:0 c:0 d:0\n")
		} else {
			s.WriteString("- a:0 " + last + ":0 c:0 d:0\n")
		}
	}
	return s.String()
}
