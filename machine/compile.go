package machine

import (
	"rewrite/api"
	"rewrite/early"
	"rewrite/foresee"
	"rewrite/rule"
	"rewrite/twin"
)

// Compile: the machine of rules (P5 to P8).
func Compile(s string, limit int) (*Machine, api.Refusal, api.Errno) {
	if limit < 1 || limit > api.MaxStates {
		return nil, api.Refusal{}, api.ErrLimit
	}
	rules, line, e := rule.Read(s)
	if e != api.OK {
		return nil, api.Refusal{Line: line}, e
	}
	view, ok := foresee.New(rules)
	if !ok {
		return nil, api.Refusal{}, api.ErrBig
	}
	states, ok := early.States(view, limit)
	if ok {
		return fromStates(states), api.Refusal{}, api.OK
	}
	// Only where states are too many does it matter whether they are without end.
	w, ok := twin.Find(view)
	if ok {
		return nil, api.Refusal{W: w}, api.ErrTwin
	}
	return nil, api.Refusal{}, api.ErrStates
}

func fromStates(states []early.State) *Machine {
	x := &Machine{}
	for _, q := range states {
		x.states = append(x.states, state{end: q.End, said: q.Said, next: q.Next})
	}
	return x
}
