package scan_test

import (
	"testing"

	"rewrite/scan"
)

func TestReading(t *testing.T) {
	r := scan.New("abE dA12>")
	if w := r.Run(scan.Digits); w != "" || r.Left() != 9 {
		t.Errorf("a run of digits: %q, %d left", w, r.Left())
	}
	if w := r.Letter(); w != "a" {
		t.Errorf("a letter: %q", w)
	}
	if w := r.Run(scan.Letters); w != "b" {
		t.Errorf("a run of letters: %q", w)
	}
	if r.Skip(' ') || !r.Skip('E') || !r.Sees(' ') || r.Sees('d') {
		t.Errorf("signs were not told apart")
	}
	r.Take(' ')
	if w := r.Run(scan.Said); w != "dA" {
		t.Errorf("a run of what may be said: %q", w)
	}
	if w := r.Run(scan.Digits); w != "12" {
		t.Errorf("a run of digits: %q", w)
	}
	r.Take('>')
	if r.IsBad() || r.Left() != 0 {
		t.Errorf("in the end: bad %v, %d left", r.IsBad(), r.Left())
	}
}

func TestWhatDoesNotFit(t *testing.T) {
	for _, s := range []string{"", "A", "\x00", "\n"} {
		r := scan.New(s)
		if w := r.Letter(); w != "" || !r.IsBad() || r.Left() != len(s) {
			t.Errorf("a letter of %q: %q, bad %v", s, w, r.IsBad())
		}
		r = scan.New(s)
		r.Take('a')
		if !r.IsBad() || r.Left() != len(s) {
			t.Errorf("a of %q: bad %v", s, r.IsBad())
		}
	}
	r := scan.New("a")
	r.Fail()
	if !r.IsBad() || r.Sees('a') || r.Skip('a') {
		t.Errorf("what is bad still sees")
	}
}
