package machine_test

import (
	"regexp"
	"strings"
	"testing"

	"rewrite/api"
	"rewrite/machine"
)

// checkRefused: an error of P5 or P6, with nothing beside it but the line.
func checkRefused(t *testing.T, s string, limit int, want api.Errno, line int) {
	t.Helper()
	x, r, e := machine.Compile(s, limit)
	if x != nil || r != (api.Refusal{Line: line}) || e != want {
		t.Errorf("Compile(%.80q, %d) = %v, %v, %d, want %d, line %d", s, limit, x, r, e, want, line)
	}
}

// checkRules: none of the errors of P5.
func checkRules(t *testing.T, s string, limit int) {
	t.Helper()
	_, r, e := machine.Compile(s, limit)
	if e == api.ErrLimit || e == api.ErrLine || e == api.ErrRules || r.Line != 0 {
		t.Errorf("Compile(%.80q, %d) = .., %v, %d", s, limit, r, e)
	}
}

// contextForm: contexts in which brackets stand at most so deep, as a regexp.
func contextForm(depth int) string {
	part := `[a-d]|\.|\[\^?(?:ab?c?d?|bc?d?|cd?|d)\]`
	if depth > 0 {
		part += `|\(` + contextForm(depth-1) + `\)`
	}
	row := `(?:(?:` + part + `)\**)*`
	return `(?:` + row + `(?:\|` + row + `)*)`
}

var ruleForm = regexp.MustCompile(`\A[a-d]{1,4}>[a-dA-D]{0,4}(?:/(` + contextForm(3) + `))?\z`)

func isRule(line string) bool {
	found := ruleForm.FindStringSubmatch(line)
	return found != nil && len(found[1]) <= 14
}

// checkForm: what P5 asks for, by the regexp.
func checkForm(t *testing.T, s string) {
	t.Helper()
	lines := strings.Split(s, "\n")
	last := len(lines) - 1
	for i, line := range lines {
		if i == last && line != "" || i < last && !isRule(line) {
			checkRefused(t, s, 200, api.ErrLine, i+1)
			return
		}
	}
	if last < 1 || last > 4 {
		checkRefused(t, s, 200, api.ErrRules, 0)
		return
	}
	checkRules(t, s, 200)
}

// stringsTo: all strings of at most n bytes out of some.
func stringsTo(n int, of string) []string {
	all := []string{""}
	from := 0
	for range n {
		to := len(all)
		for _, s := range all[from:to] {
			for i := range len(of) {
				all = append(all, s+of[i:i+1])
			}
		}
		from = to
	}
	return all
}

func TestP5Limit(t *testing.T) {
	for _, limit := range numbers {
		for _, s := range []string{"a>b\n", "a>b", "", "x", "a>b\n\n", strings.Repeat("a>b\n", 5), great + great + great + "a>b\n"} {
			if limit < 1 || limit > 200 {
				checkRefused(t, s, limit, api.ErrLimit, 0)
			}
		}
	}
	for _, limit := range []int{1, 2, 100, 199, 200} {
		checkRules(t, "a>b\n", limit)
		checkRefused(t, "a>b", limit, api.ErrLine, 1)
		checkRefused(t, "", limit, api.ErrRules, 0)
	}
}

func TestP5Examples(t *testing.T) {
	for _, s := range []string{
		"a>b", "ab\n", ">b\n", "a>e\n", "A>b\n", "abcda>b\n", "a>ABCDA\n", "a>b/*\n", "a>b/[ba]\n", "a>b/[]\n", "a>b/((((a))))\n", "a>b/a/b\n",
	} {
		checkRefused(t, s, 200, api.ErrLine, 1)
	}
	checkRefused(t, "a>b\n\n", 200, api.ErrLine, 2)
	checkRefused(t, "a>b\nb>a/(c\n", 200, api.ErrLine, 2)
	checkRefused(t, "", 200, api.ErrRules, 0)
	checkRefused(t, "a>b\nb>a\nc>a\nd>a\na>c\n", 200, api.ErrRules, 0)
	for _, s := range []string{
		"a>b/\n", "a>b/c**\n", "a>b/()|(c|)\n", "a>b/[abcd]\n",
		"a>B\n", "a>b/c\n", "a>aA/c\n", "ab>C\na>D\n", "a>D\nab>C\n", "ab>C\nab>D\n", "ab>C/d\nab>D\n", "ab>C/d\na>D\n", "a>B/.b\n", "a>B/b*c\n", "a>aB/b*c\n", "a>B/.*d\n", "a>b/c*\n", "a>B/[^abcd]\n", "a>\nb>BB\n",
	} {
		checkRules(t, s, 200)
	}
}

func TestP5Lines(t *testing.T) {
	const good = "a>b/c*\n"
	for n := range 5 {
		before := strings.Repeat(good, n)
		for _, line := range []string{"", "x", "a", "a>", "a>b/(", "a>b\r", " a>b", "a>b ", "\x00"} {
			if !isRule(line) {
				checkRefused(t, before+line+"\n", 200, api.ErrLine, n+1)
				checkRefused(t, before+line+"\n"+good, 200, api.ErrLine, n+1)
				checkRefused(t, before+line+"\nx\n\n", 200, api.ErrLine, n+1)
			}
			if line != "" {
				checkRefused(t, before+line, 200, api.ErrLine, n+1)
			}
		}
		if n > 0 {
			checkRefused(t, strings.TrimSuffix(before, "\n"), 200, api.ErrLine, n)
		}
	}
	for n := 1; n <= 4; n++ {
		checkRules(t, strings.Repeat(good, n), 200)
	}
	for _, n := range []int{5, 6, 100, 100000} {
		checkRefused(t, strings.Repeat(good, n), 200, api.ErrRules, 0)
		checkRefused(t, strings.Repeat(good, n)+"a>b", 200, api.ErrLine, n+1)
		checkRefused(t, strings.Repeat(good, n)+"\n", 200, api.ErrLine, n+1)
	}
}

func TestP5Edges(t *testing.T) {
	for _, line := range []string{
		"a>", "abcd>", "dddd>DDDD", "a>/", "a>b/|", "a>b/||", "a>b/a|", "a>b/|a", "a>b/()", "a>b/()*", "a>b/(|)", "a>b/(((a)))", "a>b/(((a)))(((", "a>b/()()()()", "a>b/((()))()()",
		"a>b/abcdabcdabcdab", "a>b/(((abcdabcd)))", "a>b/**************", "a>b/a*************", "a>b/[abcd][^abcd]", "a>b/||||||||||||||",
		"a>b/[a]", "a>b/[ad]", "a>b/[^a]*", "a>b/[^abcd]",
	} {
		checkForm(t, line+"\n")
	}
	for _, line := range []string{
		"aaaaa>b", "a>bbbbb", "a>b/((((", "a>b/((((a))))", "a>b/(((())))", "a>b/a(b(c(d(a))))", "a>b/abcdabcdabcdabc", "a>b/a**************", "a>b/|||||||||||||||", "a>b/(((abcdabcda)))",
		"a>b/[", "a>b/[^", "a>b/[^]", "a>b/[^^a]", "a>b/[a^]", "a>b/[a", "a>b/[a*]", "a>b/[a-d]", "a>b/[aa]", "a>b/[adc]", "a>b/[.]", "a>b/[e]", "a>b/[A]", "a>b/]", "a>b/^a", "a>b/a]",
		"a>b/)", "a>b/())", "a>b/(()", "a>b/(", "a>b/(a", "a>b/(*)", "a>b/(a|*)", "a>b/|*", "a>b/a+", "a>b/a?", "a>b/-", "a>b/A", "a>b/e", "a>b//", "a>b/a>b", "a>>b", "a>b>c", ">", "/", "a/b", "a>-",
	} {
		checkRefused(t, line+"\n", 200, api.ErrLine, 1)
	}
}

func TestP5AllShortTexts(t *testing.T) {
	for _, s := range stringsTo(6, "aA>/e\n") {
		checkForm(t, s)
	}
}

func TestP5AllShortContexts(t *testing.T) {
	t.Parallel()
	for _, context := range stringsTo(5, "ab.[^]()|*") {
		checkForm(t, "a>b/"+context+"\n")
	}
	for _, context := range stringsTo(10, "()") {
		checkForm(t, "a>b/"+context+"\n")
	}
}

// TestP5EveryByteEverywhere lays every byte into, and in the place of every byte of, texts of rules.
func TestP5EveryByteEverywhere(t *testing.T) {
	for _, s := range []string{"ab>Cd/(a|[^bd]*).\n", "a>\nbc>b/((c*))d\n"} {
		for i := range len(s) + 1 {
			for c := range 256 {
				with := string([]byte{byte(c)})
				checkForm(t, s[:i]+with+s[i:])
				if i < len(s) {
					checkForm(t, s[:i]+with+s[i+1:])
				}
			}
		}
		for i := range len(s) {
			checkForm(t, s[:i]+s[i+1:])
		}
	}
}

func TestP5LongLines(t *testing.T) {
	for _, part := range []string{"a", "A", ">", "/", "(", ")", "[", "*", "|", "()", "a>b", "\x00"} {
		long := strings.Repeat(part, 200000)
		for _, s := range []string{long, "a>" + long, "a>b/" + long} {
			checkRefused(t, s, 200, api.ErrLine, 1)
			checkRefused(t, "a>b\n"+s+"\n", 200, api.ErrLine, 2)
		}
	}
}
