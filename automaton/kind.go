package automaton

import "rewrite/api"

// kind: of a word: from which states of an automaton it leads to a hit.
type kind [api.MaxAutos]bool

// Kinds: into how many kinds words fall (P6), for an automaton of at most MaxAutos states, all of which words lead to.
// Counting ends beyond MaxKinds. Kinds are met from the empty word on, by letters laid ahead: the kind of a word and a letter are enough to know the kind of the word with the letter ahead of it.
func Kinds(a Automaton) int {
	met := []kind{ofEmptyWord(a)}
	for i := 0; i < len(met) && len(met) <= api.MaxKinds; i++ {
		for l := 0; l < api.Letters; l++ {
			k := ahead(a, met[i], l)
			if !isIn(met, k) {
				met = append(met, k)
			}
		}
	}
	return len(met)
}

func ofEmptyWord(a Automaton) kind {
	var k kind
	for q := 0; q < len(k) && q < len(a.Hit); q++ {
		k[q] = a.Hit[q]
	}
	return k
}

// ahead: the kind of words with a letter ahead of them.
func ahead(a Automaton, k kind, l int) kind {
	var longer kind
	for q := 0; q < len(k) && q < len(a.Next); q++ {
		longer[q] = k[a.Next[q][l]]
	}
	return longer
}

func isIn(list []kind, k kind) bool {
	for _, other := range list {
		if other == k {
			return true
		}
	}
	return false
}
