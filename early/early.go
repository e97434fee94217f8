// Package early: the states of the machine that says every letter as soon as it is known.
package early

import (
	"rewrite/api"
	"rewrite/foresee"
	"rewrite/letter"
)

// State: what is said if the text ends there; for each letter what is said and which state is next.
type State struct {
	End  string
	Said [api.Letters]string
	Next [api.Letters]int
}

// States: those into which words fall, numbered as they are met (P8); false if they are more than limit.
func States(v foresee.View, limit int) ([]State, bool) {
	o := newOutlook(v)
	m := meeting{met: []bundle{o.start()}}
	var states []State
	for i := 0; i < len(m.met); i++ {
		if len(m.met) > limit {
			return nil, false
		}
		b := m.met[i]
		q := State{End: b.held[0]}
		for l := range q.Next {
			said, next := o.follow(b, l)
			q.Said[l] = said
			q.Next[l] = m.number(next)
		}
		states = append(states, q)
	}
	return states, true
}

// bundle: a state: for each kind of what may follow, how many letters of a match are to come, and what is sure but not said, because it is not so for all kinds.
// Words are of one state just if their bundles are alike: what is held is common to all that may be said if the kind follows, and the letters to come, each the least that stand for them, tell the rest.
type bundle struct {
	toCome [api.MaxKinds]int
	held   [api.MaxKinds]string
}

type meeting struct {
	met []bundle
}

func (m *meeting) number(b bundle) int {
	for i, other := range m.met {
		if other == b {
			return i
		}
	}
	m.met = append(m.met, b)
	return len(m.met) - 1
}

// start: behind the empty word. What is sure of a kind is held, since of the empty word nothing will be said.
func (o *outlook) start() bundle {
	var b bundle
	for k := range o.sure {
		b.held[k] = o.sure[k][0]
	}
	return b
}

// follow: what is said when a letter comes, and the bundle behind it.
func (o *outlook) follow(b bundle, l int) (string, bundle) {
	var next bundle
	for k, ahead := range o.view.Kinds.Ahead {
		before := ahead[l]
		said, left := o.step(before, b.toCome[before], l, k)
		next.toCome[k] = o.least(k, left)
		next.held[k] = b.held[before] + said
	}
	said := common(next.held[:len(o.sure)])
	for k := range o.sure {
		next.held[k] = next.held[k][len(said):]
	}
	return said, next
}

// common: of words, that with which all of them begin.
func common(words []string) string {
	if len(words) == 0 {
		return ""
	}
	all := words[0]
	for _, w := range words {
		n := letter.Common(all, w)
		all = all[:n]
	}
	return all
}
