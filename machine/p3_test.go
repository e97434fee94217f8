package machine_test

import (
	"math"
	"strings"
	"testing"

	"rewrite/api"
	"rewrite/machine"
)

func checkFeed(t *testing.T, r *machine.Runner, w, said string, state int, pending string) {
	t.Helper()
	o, e := r.Feed(w)
	if o != said || e != api.OK || r.State() != state || r.Pending() != pending {
		t.Errorf("Feed(%.40q) = %.40q, %d; State() = %d, Pending() = %q; want %.40q, 0, %d, %q", w, o, e, r.State(), r.Pending(), said, state, pending)
	}
}

func TestP3Example(t *testing.T) {
	r := load(t, two).Start()
	checkFeed(t, r, "a", "", 1, "a")
	checkFeed(t, r, "a", "a", 1, "a")
	checkFeed(t, r, "c", "bc", 0, "")
	checkFeed(t, r, "", "", 0, "")
	checkFeed(t, r, "aacdba", "abcdb", 1, "a")
	if o, e := r.Close(); o != "a" || e != api.OK {
		t.Errorf("Close() = %q, %d", o, e)
	}
}

func TestP3InPieces(t *testing.T) {
	for _, s := range examples {
		p, _ := readPlain(s)
		x := load(t, s)
		for _, w := range wordsTo(5) {
			for i := range len(w) + 1 {
				first, middle := p.walk(0, w[:i])
				second, last := p.walk(middle, w[i:])
				r := x.Start()
				checkFeed(t, r, w[:i], first, middle, p.end[middle])
				// What a runner remembers is one number.
				q, e := x.Resume(r.State())
				if q == nil || e != api.OK {
					t.Fatalf("Resume(%d) = %v, %d", r.State(), q, e)
				}
				checkFeed(t, q, w[i:], second, last, p.end[last])
				checkFeed(t, r, w[i:], second, last, p.end[last])
			}
		}
	}
}

func TestP3Resume(t *testing.T) {
	x := load(t, six)
	p, _ := readPlain(six)
	for _, s := range []int{-1, 6, 7, 200, 1 << 32, -1 << 32, math.MinInt, math.MaxInt} {
		if r, e := x.Resume(s); r != nil || e != api.ErrState {
			t.Errorf("Resume(%d) = %v, %d", s, r, e)
		}
	}
	for s := range 6 {
		r, e := x.Resume(s)
		if r == nil || e != api.OK {
			t.Fatalf("Resume(%d) = %v, %d", s, r, e)
		}
		checkFeed(t, r, "", "", s, p.end[s])
		said, next := p.walk(s, "b")
		checkFeed(t, r, "b", said, next, p.end[next])
	}
	big := load(t, chain(200))
	if r, e := big.Resume(199); r == nil || e != api.OK {
		t.Errorf("Resume(199) = %v, %d", r, e)
	}
	if r, e := big.Resume(200); r != nil || e != api.ErrState {
		t.Errorf("Resume(200) = %v, %d", r, e)
	}
}

func TestP3WrongBytes(t *testing.T) {
	r := load(t, six).Start()
	checkFeed(t, r, "aa", "", 2, "aa")
	for c := range 256 {
		if c >= 'a' && c <= 'd' {
			continue
		}
		bad := string([]byte{byte(c)})
		for _, w := range []string{bad, "b" + bad, bad + "b", "bb" + bad + "b", strings.Repeat("b", 5000) + bad} {
			o, e := r.Feed(w)
			if o != "" || e != api.ErrByte || r.State() != 2 || r.Pending() != "aa" {
				t.Errorf("Feed(%.20q) = %q, %d; State() = %d, Pending() = %q", w, o, e, r.State(), r.Pending())
			}
		}
	}
	checkFeed(t, r, "b", "B", 3, "ab")
}

func TestP3Close(t *testing.T) {
	x := load(t, six)
	r := x.Start()
	checkFeed(t, r, "bac", "b", 4, "ac")
	if o, e := r.Close(); o != "ac" || e != api.OK {
		t.Errorf("Close() = %q, %d", o, e)
	}
	for _, w := range []string{"", "a", "x"} {
		if o, e := r.Feed(w); o != "" || e != api.ErrClosed {
			t.Errorf("Feed(%q) behind Close = %q, %d", w, o, e)
		}
	}
	for range 2 {
		if o, e := r.Close(); o != "" || e != api.ErrClosed {
			t.Errorf("Close() behind Close = %q, %d", o, e)
		}
		if r.State() != 4 || r.Pending() != "ac" {
			t.Errorf("behind Close: State() = %d, Pending() = %q", r.State(), r.Pending())
		}
	}
	fresh := x.Start()
	if o, e := fresh.Close(); o != "" || e != api.OK {
		t.Errorf("Close() at once = %q, %d", o, e)
	}
	checkFeed(t, x.Start(), "a", "", 1, "a")
}

func TestP3LongText(t *testing.T) {
	r := load(t, two).Start()
	n := 500000
	checkFeed(t, r, strings.Repeat("ac", n), strings.Repeat("bc", n), 0, "")
	checkFeed(t, r, strings.Repeat("a", n), strings.Repeat("a", n-1), 1, "a")
}
