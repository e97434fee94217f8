package machine

import (
	"strconv"

	"rewrite/api"
	"rewrite/scan"
)

// Load: the machine that a text is (P2).
func Load(s string) (*Machine, api.Errno) {
	states, ok := readStates(s)
	if !ok {
		return nil, api.ErrText
	}
	if !isSound(states) {
		return nil, api.ErrText
	}
	return &Machine{states: states}, api.OK
}

// Text: the machine as a text (P2).
func (x *Machine) Text() string {
	if x == nil {
		return ""
	}
	var text []byte
	for _, q := range x.states {
		text = appendWord(text, q.end)
		for l, w := range q.said {
			text = append(text, ' ')
			text = appendWord(text, w)
			text = append(text, ':')
			number := strconv.Itoa(q.next[l])
			text = append(text, number...)
		}
		text = append(text, '\n')
	}
	return string(text)
}

// appendWord: a word of nothing is written as a dash.
func appendWord(text []byte, w string) []byte {
	if w == "" {
		return append(text, '-')
	}
	return append(text, w...)
}

// readStates takes a text apart into lines; which states its numbers name is not looked at.
func readStates(s string) ([]state, bool) {
	r := scan.New(s)
	var states []state
	for r.Left() > 0 {
		if len(states) == api.MaxStates {
			return nil, false
		}
		q := readState(&r)
		if r.IsBad() {
			return nil, false
		}
		states = append(states, q)
	}
	return states, len(states) > 0
}

func readState(r *scan.Reader) state {
	var q state
	q.end = readWord(r)
	for l := 0; l < api.Letters; l++ {
		r.Take(' ')
		q.said[l] = readWord(r)
		r.Take(':')
		q.next[l] = readNumber(r)
	}
	r.Take('\n')
	return q
}

func readWord(r *scan.Reader) string {
	if r.Skip('-') {
		return ""
	}
	w := r.Run(scan.Said)
	if w == "" {
		r.Fail()
	}
	return w
}

// readNumber does not grow on beyond MaxStates, so that no run of digits is too long for an int.
func readNumber(r *scan.Reader) int {
	digits := r.Run(scan.Digits)
	if digits == "" {
		r.Fail()
	}
	if len(digits) > 1 && digits[0] == '0' {
		r.Fail()
	}
	n := 0
	for i := 0; i < len(digits) && n <= api.MaxStates; i++ {
		n = n*10 + int(digits[i]-'0')
	}
	return n
}
