// Package twin: whether words fall into infinitely many states, and a witness that they do (P7).
package twin

import (
	"rewrite/api"
	"rewrite/foresee"
	"rewrite/letter"
)

// Find: a witness that words fall into infinitely many states; false if they do not.
// Only pairs are looked at from which more and more can be said; of the others no more than some letters will ever be held back.
// It ends: where what the two have said parts there is a witness at once, so of each pair and length but one thing can be held; and where that grows without end a pair is come to again, which is a witness, too.
func Find(v foresee.View) (api.Witness, bool) {
	s := search{graph: newGraph(v)}
	s.begin()
	for i := 0; i < len(s.found); i++ {
		w, ok := s.judge(i)
		if ok {
			return w, true
		}
		s.goOn(i)
	}
	return api.Witness{}, false
}

// search: what has been found, each but once, the shorter words first; for each pair the number of what was found last with it, and 1 more, or 0.
type search struct {
	graph graph
	found []finding
	last  []int
}

// finding: a pair, and what each of the two has said behind what is common; how it was come to (from and letter; from is -1 for the empty word); and what was found before with the same pair (or -1).
type finding struct {
	pair   int
	held   [2]string
	from   int
	l      int
	before int
}

func (s *search) begin() {
	s.last = make([]int, len(s.graph.pairs))
	for i := 0; i < s.graph.starts; i++ {
		s.add(finding{pair: i, from: -1})
	}
}

func (s *search) add(f finding) {
	if s.graph.onward[f.pair] < 0 {
		return
	}
	f.before = s.last[f.pair] - 1
	for i := f.before; i >= 0; i = s.found[i].before {
		if s.found[i].held == f.held {
			return
		}
	}
	s.found = append(s.found, f)
	s.last[f.pair] = len(s.found)
}

func (s *search) goOn(i int) {
	f := s.found[i]
	steps := s.graph.steps[s.graph.first[f.pair]:s.graph.first[f.pair+1]]
	for _, by := range steps {
		x := f.held[0] + by.said[0]
		y := f.held[1] + by.said[1]
		n := letter.Common(x, y)
		s.add(finding{pair: by.to, held: [2]string{x[n:], y[n:]}, from: i, l: by.l})
	}
}

// judge: a witness, if the pair was come to before on the same way (what is held is another, since else it would not have been found); or if it is known to part by going on to where more is said.
func (s *search) judge(i int) (api.Witness, bool) {
	here := s.found[i].pair
	for j := s.found[i].from; j >= 0; j = s.found[j].from {
		if s.found[j].pair == here {
			to := s.word(j, -1)
			round := s.word(i, j)
			return s.graph.weigh(to, round, here)
		}
	}
	to := s.word(i, -1)
	on, round, end := s.graph.circle(here)
	return s.graph.weigh(to+on, round, end)
}

// word: the letters that lead to a finding from another on the way there (-1: from the beginning).
func (s *search) word(i int, from int) string {
	w := ""
	for i >= 0 && i != from {
		f := s.found[i]
		if f.from >= 0 {
			w = letter.Texts[f.l:f.l+1] + w
		}
		i = f.from
	}
	return w
}
