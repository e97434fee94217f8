// Package automaton: which words begin with a match of a rule, told letter by letter; and what words behind a word make of that.
package automaton

import (
	"rewrite/api"
	"rewrite/classes"
	"rewrite/rule"
)

// Automaton: states, numbered from 0 on: for each the next ones by the letters, and whether it is a hit.
type Automaton struct {
	Next [][api.Letters]int
	Hit  []bool
}

// Least: the least automaton, begun at 0, that tells the words that begin with a word of a net: a state for each class of words that are alike (P6).
// It answers false if there are more than MaxAutos.
func Least(n rule.Net) (Automaton, bool) {
	all := walk(n)
	first := byHit(all)
	parts := classes.Refine(first, all.Next, api.MaxAutos)
	if parts.Count > api.MaxAutos {
		return Automaton{}, false
	}
	return together(all, parts), true
}

// walk: an automaton of all states of a net that words lead to.
// They are many at the worst (a rule of 18 places has a few thousand), but there is no telling how few classes they make before all are known.
func walk(n rule.Net) Automaton {
	m := meeting{numbers: make([]int, n.States())}
	m.number(n.Start())
	var a Automaton
	for i := 0; i < len(m.met); i++ {
		state := m.met[i]
		var next [api.Letters]int
		for l := range next {
			to := n.Step(state, l)
			next[l] = m.number(to)
		}
		a.Next = append(a.Next, next)
		a.Hit = append(a.Hit, n.IsHit(state))
	}
	return a
}

// meeting: the states of a net as they are met; for each state of the net its number among them and 1 more, or 0.
type meeting struct {
	met     []int
	numbers []int
}

func (m *meeting) number(state int) int {
	if state < 0 || state >= len(m.numbers) {
		return 0
	}
	if m.numbers[state] == 0 {
		m.met = append(m.met, state)
		m.numbers[state] = len(m.met)
	}
	return m.numbers[state] - 1
}

// byHit: what is hit and what is not are told apart by the empty word.
func byHit(a Automaton) classes.Classes {
	c := classes.Classes{Of: make([]int, len(a.Hit)), Count: 1}
	for i, hit := range a.Hit {
		if hit != a.Hit[0] {
			c.Of[i] = 1
			c.Count = 2
		}
	}
	return c
}

// together: an automaton of classes, each as the first of its states has it.
func together(a Automaton, c classes.Classes) Automaton {
	var least Automaton
	for i, class := range c.Of {
		// Classes are numbered as they are met, so this one was met before.
		if class < len(least.Next) {
			continue
		}
		var next [api.Letters]int
		for l, to := range a.Next[i] {
			next[l] = c.Of[to]
		}
		least.Next = append(least.Next, next)
		least.Hit = append(least.Hit, a.Hit[i])
	}
	return least
}

// Add lays the states of another automaton behind those that are there.
func (a *Automaton) Add(b Automaton) {
	before := len(a.Next)
	for i, next := range b.Next {
		for l := range next {
			next[l] += before
		}
		a.Next = append(a.Next, next)
		a.Hit = append(a.Hit, b.Hit[i])
	}
}
