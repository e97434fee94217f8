package machine

import (
	"rewrite/api"
	"rewrite/automaton"
	"rewrite/rule"
)

// Compile: the machine of rules (P5 to P8).
func Compile(s string, limit int) (*Machine, api.Refusal, api.Errno) {
	if limit < 1 || limit > api.MaxStates {
		return nil, api.Refusal{}, api.ErrLimit
	}
	rules, line, e := rule.Read(s)
	if e != api.OK {
		return nil, api.Refusal{Line: line}, e
	}
	if areBig(rules) {
		return nil, api.Refusal{}, api.ErrBig
	}
	return nil, api.Refusal{}, api.OK
}

// areBig: whether rules are of too many classes or kinds (P6).
func areBig(rules []rule.Rule) bool {
	var all automaton.Automaton
	for _, r := range rules {
		least, ok := automaton.Least(r.Match)
		if !ok {
			return true
		}
		all.Add(least)
	}
	if len(all.Next) > api.MaxAutos {
		return true
	}
	return automaton.Kinds(all) > api.MaxKinds
}
