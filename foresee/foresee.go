// Package foresee: words rewritten letter by letter, by one who is told of what kind the rest of the word is.
package foresee

import (
	"rewrite/api"
	"rewrite/automaton"
	"rewrite/letter"
	"rewrite/rule"
)

// View: of rules: the kinds of words, and what is done where a word of a kind begins.
type View struct {
	Kinds automaton.Kinds
	deeds []deed
}

// deed: how many letters are taken there, and what is said in their place; no letters where no rule matches.
type deed struct {
	takes int
	says  string
}

// New: the view of rules; false if they are of too many classes or kinds (P6).
func New(rules []rule.Rule) (View, bool) {
	var all automaton.Automaton
	var starts []int
	for _, r := range rules {
		least, ok := automaton.Least(r.Match)
		if !ok {
			return View{}, false
		}
		starts = append(starts, len(all.Next))
		all.Add(least)
	}
	if len(all.Next) > api.MaxAutos {
		return View{}, false
	}
	kinds, ok := automaton.KindsOf(all)
	if !ok {
		return View{}, false
	}
	v := View{Kinds: kinds}
	for k := range kinds.Ahead {
		d := choose(rules, starts, kinds, k)
		v.deeds = append(v.deeds, d)
	}
	return v, true
}

// choose: what is done where a word of a kind begins: of the rules that match the one with the longest FROM, of those of one length the first.
func choose(rules []rule.Rule, starts []int, kinds automaton.Kinds, kind int) deed {
	var d deed
	for i, r := range rules {
		if kinds.IsHit(kind, starts[i]) && len(r.From) > d.takes {
			d = deed{takes: len(r.From), says: r.To}
		}
	}
	return d
}

// Step: what is said of a letter, and how many letters of a match are to come behind it, if a word of a kind begins with it, and so many are to come ahead of it.
func (v View) Step(kind int, toCome int, l int) (string, int) {
	if kind < 0 || kind >= len(v.deeds) || l < 0 || l >= api.Letters {
		return "", 0
	}
	if toCome > 0 {
		return "", toCome - 1
	}
	d := v.deeds[kind]
	if d.takes > 0 {
		return d.says, d.takes - 1
	}
	return letter.Texts[l : l+1], 0
}

// Run: what is said of a word, and how many letters of a match are to come behind it, if a word of a kind stands behind it, and so many are to come ahead of it.
func (v View) Run(w string, behind int, toCome int) (string, int) {
	kinds := v.along(w, behind)
	var all []byte
	for i, k := range kinds {
		l := letter.Number(w[i])
		said, next := v.Step(k, toCome, l)
		all = append(all, said...)
		toCome = next
	}
	return string(all), toCome
}

// along: of what kind a word is from each of its letters on, if a word of a kind stands behind it.
func (v View) along(w string, behind int) []int {
	if behind < 0 || behind >= len(v.Kinds.Ahead) {
		return nil
	}
	kinds := make([]int, len(w))
	for i := len(w) - 1; i >= 0; i-- {
		l := letter.Number(w[i])
		behind = v.Kinds.Ahead[behind][l]
		kinds[i] = behind
	}
	return kinds
}
