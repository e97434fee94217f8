// Package machine: machines out of rewrite rules; runners: see DOC.md.
package machine

import (
	"rewrite/api"
	"rewrite/letter"
)

// Machine: of rules, or of a text.
type Machine struct {
	states []state
}

// state: what is said if the text ends there; for each letter what is said and which state is next.
type state struct {
	end  string
	said [api.Letters]string
	next [api.Letters]int
}

// States: how many it has (P2).
func (x *Machine) States() int {
	if x == nil {
		return 0
	}
	return len(x.states)
}

// MaxDelay: how much is held back at the most, and where (P4).
func (x *Machine) MaxDelay() (int, string) {
	if x == nil {
		return 0, ""
	}
	most := 0
	where := 0
	for i, q := range x.states {
		if len(q.end) > most {
			most = len(q.end)
			where = i
		}
	}
	words := firstWords(x.states)
	if where >= len(words) {
		return 0, ""
	}
	return most, words[where]
}

// firstWords gives for each state the first of the shortest words that lead there.
// States are numbered as they are met, so the words come in the order of the numbers, and the first meeting of a state is by its first word.
func firstWords(states []state) []string {
	words := []string{""}
	for i := 0; i < len(words) && i < len(states); i++ {
		for l, t := range states[i].next {
			if t == len(words) {
				words = append(words, words[i]+letter.Texts[l:l+1])
			}
		}
	}
	return words
}
