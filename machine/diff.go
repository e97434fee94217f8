package machine

import (
	"rewrite/api"
	"rewrite/letter"
)

// meeting: a state of each of two machines to which the same word leads; both have said the same by its letters.
type meeting struct {
	word  string
	one   int
	other int
}

// Diff: a word that parts two machines (P9).
// Both say all that is sure behind each word, so they say the same of every word just if they say the same at every meeting. Meetings come by the length of their words: of the first that parts, the word is shorter than both have states together. So it stays far below 4000 letters with what parting lays behind.
func (x *Machine) Diff(y *Machine) (string, bool) {
	if x == nil || y == nil || len(x.states) == 0 || len(y.states) == 0 {
		return "", false
	}
	isMet := make([]bool, len(x.states)*len(y.states))
	isMet[0] = true
	meetings := []meeting{{}}
	for i := 0; i < len(meetings); i++ {
		m := meetings[i]
		p := x.states[m.one]
		q := y.states[m.other]
		if p.end != q.end {
			return m.word, true
		}
		for l := 0; l < api.Letters; l++ {
			next := meeting{word: m.word + letter.Texts[l:l+1], one: p.next[l], other: q.next[l]}
			if p.said[l] != q.said[l] {
				return next.word + parting(x.states, y.states, next, p.said[l], q.said[l]), true
			}
			place := next.one*len(y.states) + next.other
			if !isMet[place] {
				isMet[place] = true
				meetings = append(meetings, next)
			}
		}
	}
	return "", false
}

// parting: what is to follow for the whole to differ, where two machines have said v and w, which are not the same.
// Who has said less might go on to say the rest: it is led to say another thing instead.
func parting(x []state, y []state, at meeting, v string, w string) string {
	n := letter.Common(v, w)
	if n < len(v) && n < len(w) {
		return ""
	}
	if n < len(v) {
		return unlike(y, at.other, v[n])
	}
	if n < len(w) {
		return unlike(x, at.one, w[n])
	}
	return ""
}
