package automaton

import (
	"rewrite/api"
	"rewrite/letter"
)

// Kinds: of words (P6), numbered from 0 on as they are met; 0 is the kind of the empty word.
type Kinds struct {
	// Ahead: for each kind, by the letters, the kind of its words with the letter ahead of them.
	Ahead [][api.Letters]int
	// Words: for each kind a word of it; none of its words is shorter.
	Words []string
	hits  []hits
}

// hits: of a word: from which states of an automaton it leads to a hit.
type hits [api.MaxAutos]bool

// KindsOf: the kinds for an automaton of at most MaxAutos states, all of which words lead to; false if they are more than MaxKinds.
// They are met from the empty word on, by letters laid ahead: the kind of a word and a letter are enough to know the kind of the word with the letter ahead of it.
func KindsOf(a Automaton) (Kinds, bool) {
	c := Kinds{Words: []string{""}, hits: []hits{ofEmptyWord(a)}}
	for i := 0; i < len(c.hits); i++ {
		var longer [api.Letters]int
		for l := range longer {
			h := ahead(a, c.hits[i], l)
			longer[l] = c.number(h)
			if longer[l] == len(c.Words) {
				c.Words = append(c.Words, letter.Texts[l:l+1]+c.Words[i])
			}
		}
		if len(c.hits) > api.MaxKinds {
			return Kinds{}, false
		}
		c.Ahead = append(c.Ahead, longer)
	}
	return c, true
}

// IsHit: whether words of a kind lead from a state to a hit.
func (c Kinds) IsHit(kind int, state int) bool {
	if kind < 0 || kind >= len(c.hits) || state < 0 || state >= api.MaxAutos {
		return false
	}
	return c.hits[kind][state]
}

// number: of the kind with these hits; a new one, if there is none yet.
func (c *Kinds) number(h hits) int {
	for i, other := range c.hits {
		if other == h {
			return i
		}
	}
	c.hits = append(c.hits, h)
	return len(c.hits) - 1
}

func ofEmptyWord(a Automaton) hits {
	var h hits
	for q := 0; q < len(h) && q < len(a.Hit); q++ {
		h[q] = a.Hit[q]
	}
	return h
}

// ahead: the hits of a word with a letter ahead of it.
func ahead(a Automaton, h hits, l int) hits {
	var longer hits
	for q := 0; q < len(h) && q < len(a.Next); q++ {
		longer[q] = h[a.Next[q][l]]
	}
	return longer
}
