package machine

import (
	"strconv"

	"rewrite/api"
)

// Load: the machine that a text is (P2).
func Load(s string) (*Machine, api.Errno) {
	states, ok := readStates(s)
	if !ok {
		return nil, api.ErrText
	}
	if !isSound(states) {
		return nil, api.ErrText
	}
	return &Machine{states: states}, api.OK
}

// Text: the machine as a text (P2).
func (x *Machine) Text() string {
	if x == nil {
		return ""
	}
	var text []byte
	for _, q := range x.states {
		text = appendWord(text, q.end)
		for l, w := range q.said {
			text = append(text, ' ')
			text = appendWord(text, w)
			text = append(text, ':')
			number := strconv.Itoa(q.next[l])
			text = append(text, number...)
		}
		text = append(text, '\n')
	}
	return string(text)
}

// appendWord: a word of nothing is written as a dash.
func appendWord(text []byte, w string) []byte {
	if w == "" {
		return append(text, '-')
	}
	return append(text, w...)
}

// reader: a place in a text; bad from the first byte on that does not fit.
type reader struct {
	text string
	at   int
	bad  bool
}

// readStates takes a text apart into lines; which states its numbers name is not looked at.
func readStates(s string) ([]state, bool) {
	r := reader{text: s}
	var states []state
	for r.at < len(s) {
		if len(states) == api.MaxStates {
			return nil, false
		}
		q := r.line()
		if r.bad {
			return nil, false
		}
		states = append(states, q)
	}
	return states, len(states) > 0
}

func (r *reader) line() state {
	var q state
	q.end = r.word()
	for l := 0; l < api.Letters; l++ {
		r.sign(' ')
		q.said[l] = r.word()
		r.sign(':')
		q.next[l] = r.number()
	}
	r.sign('\n')
	return q
}

func (r *reader) sign(c byte) {
	if r.at >= len(r.text) || r.text[r.at] != c {
		r.bad = true
		return
	}
	r.at++
}

// word copies byte by byte, so that the machine does not keep the text that it is loaded from.
func (r *reader) word() string {
	if r.at < len(r.text) && r.text[r.at] == '-' {
		r.at++
		return ""
	}
	var w []byte
	for r.at < len(r.text) && isSayable(r.text[r.at]) {
		w = append(w, r.text[r.at])
		r.at++
	}
	if len(w) == 0 {
		r.bad = true
	}
	return string(w)
}

// number does not grow on beyond MaxStates, so that no run of digits is too long for an int.
func (r *reader) number() int {
	start := r.at
	n := 0
	for r.at < len(r.text) && isDigit(r.text[r.at]) {
		if n <= api.MaxStates {
			n = n*10 + int(r.text[r.at]-'0')
		}
		r.at++
	}
	digits := r.text[start:r.at]
	if digits == "" {
		r.bad = true
	}
	if len(digits) > 1 && digits[0] == '0' {
		r.bad = true
	}
	return n
}

func isDigit(c byte) bool { return c >= '0' && c <= '9' }

func isLetter(c byte) bool { return c >= 'a' && c <= 'd' }

func isSayable(c byte) bool { return isLetter(c) || c >= 'A' && c <= 'D' }
