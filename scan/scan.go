// Package scan: a text that is read from the left, byte by byte.
package scan

import "rewrite/letter"

// Reader: a place in a text; bad from the first byte on that does not fit.
type Reader struct {
	text string
	at   int
	bad  bool
}

// New: a reader at the beginning of a text.
func New(text string) Reader { return Reader{text: text} }

// Left: how many bytes are still to be read.
func (r *Reader) Left() int { return len(r.text) - r.at }

// Fail: what was read does not fit.
func (r *Reader) Fail() { r.bad = true }

// IsBad: whether something did not fit.
func (r *Reader) IsBad() bool { return r.bad }

// Sees: whether a byte stands next; none does where something did not fit, so that what reads on and on ends there.
func (r *Reader) Sees(c byte) bool {
	return !r.bad && r.at < len(r.text) && r.text[r.at] == c
}

// Take reads a byte that must stand next.
func (r *Reader) Take(c byte) {
	if !r.Sees(c) {
		r.bad = true
		return
	}
	r.at++
}

// Skip reads a byte if it stands next, and tells whether it did.
func (r *Reader) Skip(c byte) bool {
	if !r.Sees(c) {
		return false
	}
	r.at++
	return true
}

// Letter reads one letter that texts are of, which must stand next.
func (r *Reader) Letter() string {
	if r.at >= len(r.text) || !letter.Is(r.text[r.at]) {
		r.bad = true
		return ""
	}
	r.at++
	return r.text[r.at-1 : r.at]
}

// Class: what a run of bytes is of.
type Class int

// The classes.
const (
	Letters Class = iota // that texts are of
	Said                 // letters that may be said
	Digits
)

// Run reads as many bytes of a class as stand next (perhaps none).
// It copies them one by one, so that what keeps the run does not keep the text.
func (r *Reader) Run(of Class) string {
	var run []byte
	for r.at < len(r.text) && of.has(r.text[r.at]) {
		run = append(run, r.text[r.at])
		r.at++
	}
	return string(run)
}

func (of Class) has(c byte) bool {
	switch of {
	case Letters:
		return letter.Is(c)
	case Said:
		return letter.IsSaid(c)
	case Digits:
		return c >= '0' && c <= '9'
	}
	return false
}
