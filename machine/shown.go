package machine

import "rewrite/letter"

// Shown: two words that show that no more could have been said (P10).
// The one is always the empty word: of it what Pending tells is said.
func (r *Runner) Shown() (string, string) {
	held := r.Pending()
	if held == "" {
		return "", ""
	}
	return "", unlike(r.of.states, r.at, held[0])
}

// way: a word that leads to a state, and at whose letters nothing is said.
type way struct {
	word string
	to   int
}

// unlike: a word of which what is said from a state on, the end with it, is nothing or begins with another letter than the one given.
// There is one behind each state of a machine (P2). Each state is come to once, so the word has no more letters than there are states.
func unlike(states []state, from int, first byte) string {
	isMet := make([]bool, len(states))
	isMet[from] = true
	ways := []way{{to: from}}
	for i := 0; i < len(ways); i++ {
		q := states[ways[i].to]
		if !beginsWith(q.end, first) {
			return ways[i].word
		}
		for l, said := range q.said {
			next := way{word: ways[i].word + letter.Texts[l:l+1], to: q.next[l]}
			if said != "" && !beginsWith(said, first) {
				return next.word
			}
			if said == "" && !isMet[next.to] {
				isMet[next.to] = true
				ways = append(ways, next)
			}
		}
	}
	return ""
}

func beginsWith(w string, first byte) bool {
	return w != "" && w[0] == first
}
