package machine

// isSound: whether states are those of a machine as P2 asks for it.
func isSound(states []state) bool {
	// First, because the other two go from state to state by these numbers.
	if !isNumbered(states) {
		return false
	}
	// Second, because allDiffer is right only where nothing is held back without need.
	if !isEarly(states) {
		return false
	}
	return allDiffer(states)
}

// isNumbered: every next state is there, and states are numbered as they are met.
func isNumbered(states []state) bool {
	met := 1
	for i, q := range states {
		if i >= met {
			return false
		}
		for _, t := range q.next {
			if t < 0 || t > met || t >= len(states) {
				return false
			}
			if t == met {
				met++
			}
		}
	}
	return met == len(states)
}

// sayable: what may be said; a letter's place here is its bit in a set of beginnings.
const sayable = "abcdABCD"

// saysNothing: the bit of the empty word in a set of beginnings.
const saysNothing = 256

// isEarly: behind no state all that may be said begins with the same letter.
func isEarly(states []state) bool {
	for _, set := range beginnings(states) {
		if isOneLetter(set) {
			return false
		}
	}
	return true
}

func isOneLetter(set int) bool {
	return set != saysNothing && set&(set-1) == 0
}

// beginnings gives for each state the set of what the words that may be said from it on begin with.
// The sets begin empty and only grow, so the rounds end.
func beginnings(states []state) []int {
	sets := make([]int, len(states))
	grown := true
	for grown {
		grown = false
		for i, q := range states {
			set := beginningsOf(q, sets)
			if set != sets[i] {
				sets[i] = set
				grown = true
			}
		}
	}
	return sets
}

func beginningsOf(q state, sets []int) int {
	set := beginning(q.end)
	for l, w := range q.said {
		if w == "" {
			set |= sets[q.next[l]]
		} else {
			set |= beginning(w)
		}
	}
	return set
}

func beginning(w string) int {
	if w == "" {
		return saysNothing
	}
	bit := 1
	for i := 0; i < len(sayable); i++ {
		if sayable[i] == w[0] {
			return bit
		}
		bit *= 2
	}
	return 0
}

// allDiffer: no two states say the same of every word.
// Since nothing common is held back, two states say the same of every word just if they say the same at once, in the end and by each letter, and so do their next states; classes are split until that holds.
func allDiffer(states []state) bool {
	classes, count := classesBySaid(states)
	for {
		finer, finerCount := classesByNext(states, classes)
		if finerCount == count {
			return count == len(states)
		}
		classes = finer
		count = finerCount
	}
}

// classesBySaid puts states together that say the same at once; it also gives the number of classes.
func classesBySaid(states []state) ([]int, int) {
	classes := make([]int, len(states))
	count := 0
	for i, q := range states {
		classes[i] = count
		for j, p := range states[:i] {
			if p.end == q.end && p.said == q.said {
				classes[i] = classes[j]
				break
			}
		}
		if classes[i] == count {
			count++
		}
	}
	return classes, count
}

// classesByNext splits classes by the classes of the next states; it also gives the number of classes.
func classesByNext(states []state, classes []int) ([]int, int) {
	finer := make([]int, len(states))
	count := 0
	for i := range states {
		finer[i] = count
		for j := 0; j < i; j++ {
			if areAlike(states, classes, i, j) {
				finer[i] = finer[j]
				break
			}
		}
		if finer[i] == count {
			count++
		}
	}
	return finer, count
}

func areAlike(states []state, classes []int, i int, j int) bool {
	if classes[i] != classes[j] {
		return false
	}
	for l, t := range states[i].next {
		if classes[t] != classes[states[j].next[l]] {
			return false
		}
	}
	return true
}
