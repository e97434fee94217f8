package machine_test

import (
	"math"
	"strings"
	"testing"

	"rewrite/api"
	"rewrite/machine"
)

var strange = []string{
	"", "\n", "\n\n", " ", "-", ":", "0", "-\n", "a", "ab\n", "\x00", "\xff\xfe", "é", "a>b\n", "a>b/c*\n", "/", ">", "- ", "- -", "- -:", "- -:0", "- -:-1 -:0 -:0 -:0\n",
	one + "\x00", one + "a", "\ufeff" + one, strings.ReplaceAll(one, "\n", "\r\n"), strings.Repeat(one, 200), strings.Repeat("(", 100000), strings.Repeat("a", 100000), strings.Repeat("9", 100000), strings.Repeat("\n", 100000), strings.Repeat("- ", 100000), "- B:" + strings.Repeat("9", 100000) + " b:0 c:0 d:0\n",
}

var numbers = []int{math.MinInt, math.MinInt + 1, -1 << 32, -201, -1, 0, 1, 2, 199, 200, 201, 1 << 32, math.MaxInt - 1, math.MaxInt}

func callMachine(x *machine.Machine, s string, n int) {
	x.Text()
	x.States()
	x.MaxDelay()
	x.Diff(x)
	x.Diff(nil)
	x.Diff(&machine.Machine{})
	callRunner(x.Start(), s)
	r, _ := x.Resume(n)
	callRunner(r, s)
}

func callRunner(r *machine.Runner, s string) {
	for range 2 {
		r.Feed(s)
		r.Pending()
		r.State()
		r.Shown()
		r.Close()
	}
}

func TestP1EveryCallEnds(t *testing.T) {
	two := load(t, two)
	for _, s := range strange {
		loaded, _ := machine.Load(s)
		for _, n := range numbers {
			compiled, _, _ := machine.Compile(s, n)
			callMachine(two, s, n)
			callMachine(loaded, s, n)
			callMachine(compiled, s, n)
			callMachine(nil, s, n)
			callMachine(&machine.Machine{}, s, n)
			callRunner(&machine.Runner{}, s)
		}
	}
}

func TestP1MachinesThatAreNone(t *testing.T) {
	for _, x := range []*machine.Machine{nil, {}} {
		n, w := x.MaxDelay()
		if x.Text() != "" || x.States() != 0 || n != 0 || w != "" {
			t.Errorf("of no machine: %q, %d, %d, %q", x.Text(), x.States(), n, w)
		}
		if r, e := x.Resume(0); r != nil || e != api.ErrState {
			t.Errorf("Resume(0) of no machine = %v, %d", r, e)
		}
	}
	for _, r := range []*machine.Runner{nil, {}} {
		if o, e := r.Feed("a"); o != "" || e != api.ErrClosed {
			t.Errorf("Feed of a runner of no machine = %q, %d", o, e)
		}
		if o, e := r.Close(); o != "" || e != api.ErrClosed {
			t.Errorf("Close of a runner of no machine = %q, %d", o, e)
		}
		if r.Pending() != "" || r.State() != 0 {
			t.Errorf("a runner of no machine: %q, %d", r.Pending(), r.State())
		}
	}
}

func TestP1FirstErrorAndEmptyResults(t *testing.T) {
	x := load(t, two)
	r := x.Start()
	r.Feed("a")
	if o, e := r.Feed("abx"); o != "" || e != api.ErrByte {
		t.Errorf("Feed(abx) = %q, %d", o, e)
	}
	r.Close()
	if o, e := r.Feed("abx"); o != "" || e != api.ErrClosed {
		t.Errorf("Feed(abx) behind Close = %q, %d", o, e)
	}
	if o, e := r.Close(); o != "" || e != api.ErrClosed {
		t.Errorf("Close behind Close = %q, %d", o, e)
	}
	if q, e := x.Resume(2); q != nil || e != api.ErrState {
		t.Errorf("Resume(2) = %v, %d", q, e)
	}
	if y, e := machine.Load(two + "\n"); y != nil || e != api.ErrText {
		t.Errorf("Load = %v, %d", y, e)
	}
}

func TestP1FirstErrorOfRules(t *testing.T) {
	big := great + great + great + great
	checkRefused(t, big+great+"x\n", 0, api.ErrLimit, 0)
	checkRefused(t, big+great+"x\n", 200, api.ErrLine, 6)
	checkRefused(t, big+great, 200, api.ErrRules, 0)
	checkRefused(t, big, 200, api.ErrBig, 0)
}

func TestP1NoneHangsOnAnother(t *testing.T) {
	words := wordsTo(4)
	var machines []*machine.Machine
	var plains []plain
	for _, s := range examples {
		p, _ := readPlain(s)
		machines = append(machines, load(t, s))
		plains = append(plains, p)
	}
	var runners []*machine.Runner
	for i := range machines {
		for range words {
			runners = append(runners, machines[i].Start())
		}
	}
	said := make([]string, len(runners))
	for k := range 4 {
		for i, r := range runners {
			w := words[i%len(words)]
			if k < len(w) {
				o, e := r.Feed(w[k : k+1])
				if e != api.OK {
					t.Fatalf("Feed = %d", e)
				}
				said[i] += o
			}
		}
		machine.Load("none")
		load(t, six)
	}
	for i, r := range runners {
		w := words[i%len(words)]
		want := plains[i/len(words)].whole(0, w)
		o, e := r.Close()
		if said[i]+o != want || e != api.OK {
			t.Errorf("%q of %q = %q, want %q", examples[i/len(words)], w, said[i]+o, want)
		}
		if i+1 < len(runners) {
			if _, e := runners[i+1].Feed(""); e != api.OK {
				t.Errorf("a runner was closed with another: %d", e)
			}
		}
	}
}
