package machine

import (
	"rewrite/api"
	"rewrite/letter"
)

// Runner: of a machine, on its way along a text.
type Runner struct {
	of     *Machine
	at     int
	closed bool
}

// Start: a runner at the beginning (P3).
func (x *Machine) Start() *Runner {
	r, _ := x.Resume(0)
	return r
}

// Resume: a runner at a state (P3).
func (x *Machine) Resume(s int) (*Runner, api.Errno) {
	count := x.States()
	if s < 0 || s >= count {
		return nil, api.ErrState
	}
	return &Runner{of: x, at: s}, api.OK
}

// Feed: more of the text (P3).
func (r *Runner) Feed(w string) (string, api.Errno) {
	if r.isClosed() {
		return "", api.ErrClosed
	}
	if !letter.IsWord(w) {
		return "", api.ErrByte
	}
	var said []byte
	for i := 0; i < len(w); i++ {
		l := letter.Number(w[i])
		q := r.of.states[r.at]
		said = append(said, q.said[l]...)
		r.at = q.next[l]
	}
	return string(said), api.OK
}

// Pending: what the end would say (P3).
func (r *Runner) Pending() string {
	if !r.hasMachine() {
		return ""
	}
	return r.of.states[r.at].end
}

// State: where the runner stands (P3).
func (r *Runner) State() int {
	if r == nil {
		return 0
	}
	return r.at
}

// Close: the text ends (P3).
func (r *Runner) Close() (string, api.Errno) {
	if r.isClosed() {
		return "", api.ErrClosed
	}
	r.closed = true
	said := r.Pending()
	return said, api.OK
}

// hasMachine: no for runners that neither Start nor Resume made.
func (r *Runner) hasMachine() bool { return r != nil && r.of != nil }

// isClosed: a runner without a machine was never open.
func (r *Runner) isClosed() bool { return !r.hasMachine() || r.closed }
