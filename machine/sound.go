package machine

import (
	"rewrite/api"
	"rewrite/classes"
	"rewrite/letter"
)

// isSound: whether states are those of a machine as P2 asks for it.
func isSound(states []state) bool {
	// First, because the other two go from state to state by these numbers.
	if !isNumbered(states) {
		return false
	}
	// Second, because allDiffer is right only where nothing is held back without need.
	if !isEarly(states) {
		return false
	}
	return allDiffer(states)
}

// isNumbered: every next state is there, and states are numbered as they are met.
func isNumbered(states []state) bool {
	met := 1
	for i, q := range states {
		if i >= met {
			return false
		}
		for _, t := range q.next {
			if t < 0 || t > met || t >= len(states) {
				return false
			}
			if t == met {
				met++
			}
		}
	}
	return met == len(states)
}

// saysNothing: the bit of the empty word in a set of beginnings; a letter that may be said has one below by its place among them.
const saysNothing = 256

// isEarly: behind no state all that may be said begins with the same letter.
func isEarly(states []state) bool {
	for _, set := range beginnings(states) {
		if isOneLetter(set) {
			return false
		}
	}
	return true
}

func isOneLetter(set int) bool {
	return set != saysNothing && set&(set-1) == 0
}

// beginnings gives for each state the set of what the words that may be said from it on begin with.
// The sets begin empty and only grow, so the rounds end.
func beginnings(states []state) []int {
	sets := make([]int, len(states))
	grown := true
	for grown {
		grown = false
		for i, q := range states {
			set := beginningsOf(q, sets)
			if set != sets[i] {
				sets[i] = set
				grown = true
			}
		}
	}
	return sets
}

func beginningsOf(q state, sets []int) int {
	set := beginning(q.end)
	for l, w := range q.said {
		if w == "" {
			set |= sets[q.next[l]]
		} else {
			set |= beginning(w)
		}
	}
	return set
}

func beginning(w string) int {
	if w == "" {
		return saysNothing
	}
	bit := 1
	for i := 0; i < len(letter.Said); i++ {
		if letter.Said[i] == w[0] {
			return bit
		}
		bit *= 2
	}
	return 0
}

// allDiffer: no two states say the same of every word.
// Since nothing common is held back, two states say the same of every word just if they say the same at once, in the end and by each letter, and so do their next states; classes are split until that holds.
func allDiffer(states []state) bool {
	first := bySaid(states)
	next := nextStates(states)
	parts := classes.Refine(first, next, api.MaxStates)
	return parts.Count == len(states)
}

// bySaid puts states together that say the same at once.
func bySaid(states []state) classes.Classes {
	c := classes.Classes{Of: make([]int, len(states))}
	for i, q := range states {
		c.Of[i] = c.Count
		for j, p := range states[:i] {
			if p.end == q.end && p.said == q.said {
				c.Of[i] = c.Of[j]
				break
			}
		}
		if c.Of[i] == c.Count {
			c.Count++
		}
	}
	return c
}

func nextStates(states []state) [][api.Letters]int {
	var next [][api.Letters]int
	for _, q := range states {
		next = append(next, q.next)
	}
	return next
}
