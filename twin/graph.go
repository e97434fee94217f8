package twin

import (
	"rewrite/api"
	"rewrite/foresee"
)

// place: of what kind what follows is, and how many letters of a match are to come.
type place struct {
	kind   int
	toCome int
}

// pair: where two stand behind the same word, each of whom was told another kind of what follows.
type pair [2]place

// graph: all pairs that words lead to, numbered as they are met, and the steps between them.
type graph struct {
	view  foresee.View
	pairs []pair
	// starts: so many pairs come first that the empty word leads to.
	starts int
	// numbers: for each pair that there may be its number and 1 more, or 0.
	numbers []int
	// steps: those from one pair on stand side by side, in the order of the pairs; first has where they begin, and the end of all.
	steps []step
	first []int
	// onward: for each pair the step to take to where more is said, and from there on again and again; -1 if there is none.
	onward []int
}

// step: by a letter, from a pair to another; what is said for the two.
type step struct {
	from int
	to   int
	l    int
	said [2]string
}

func (s step) isSilent() bool { return s.said[0] == "" && s.said[1] == "" }

// newGraph begins with every two kinds, since every kind may follow the empty word. Which of two is named first makes no difference.
// Two who are told the same kind are not looked at: they say the same, and when they are told different ones as many letters are to come for both; behind those they are as at the beginning.
func newGraph(v foresee.View) graph {
	kinds := len(v.Kinds.Ahead)
	places := kinds * api.MaxSide
	g := graph{view: v, numbers: make([]int, places*places)}
	for x := 0; x < kinds; x++ {
		for y := x + 1; y < kinds; y++ {
			g.number(pair{{kind: x}, {kind: y}})
		}
	}
	g.starts = len(g.pairs)
	for i := 0; i < len(g.pairs); i++ {
		g.first = append(g.first, len(g.steps))
		for l := 0; l < api.Letters; l++ {
			g.lead(i, l)
		}
	}
	g.first = append(g.first, len(g.steps))
	g.findOnward()
	return g
}

func (g *graph) number(p pair) int {
	places := len(g.view.Kinds.Ahead) * api.MaxSide
	at := (p[0].kind*api.MaxSide+p[0].toCome)*places + p[1].kind*api.MaxSide + p[1].toCome
	if g.numbers[at] == 0 {
		g.pairs = append(g.pairs, p)
		g.numbers[at] = len(g.pairs)
	}
	return g.numbers[at] - 1
}

// lead: the steps from a pair by a letter: to all kinds that have the kind told before, with the letter ahead of them.
func (g *graph) lead(from int, l int) {
	p := g.pairs[from]
	said, left := g.view.Step(p[0].kind, p[0].toCome, l)
	saidToo, leftToo := g.view.Step(p[1].kind, p[1].toCome, l)
	for x, ahead := range g.view.Kinds.Ahead {
		if ahead[l] != p[0].kind {
			continue
		}
		for y, aheadToo := range g.view.Kinds.Ahead {
			if aheadToo[l] != p[1].kind {
				continue
			}
			to := g.number(pair{{x, left}, {y, leftToo}})
			g.steps = append(g.steps, step{from: from, to: to, l: l, said: [2]string{said, saidToo}})
		}
	}
}

// findOnward begins with all pairs, and leaves out those that lead to no saying from which one of them can be come to, until none is left out any more.
func (g *graph) findOnward() {
	g.onward = make([]int, len(g.pairs))
	before := -1
	count := len(g.pairs)
	for count != before {
		before = count
		g.onward = g.onwardTo()
		count = 0
		for _, by := range g.onward {
			if by >= 0 {
				count++
			}
		}
	}
}

// onwardTo: for each pair the first step of a shortest way to a saying that leads to a pair that is not left out.
func (g *graph) onwardTo() []int {
	onward := make([]int, len(g.pairs))
	far := make([]int, len(g.pairs))
	for i := range onward {
		onward[i] = -1
	}
	grown := true
	for round := 1; grown; round++ {
		grown = false
		for i, s := range g.steps {
			isThere := round == 1 && !s.isSilent() && g.onward[s.to] >= 0
			isNearer := round > 1 && far[s.to] == round-1
			if far[s.from] == 0 && (isThere || isNearer) {
				far[s.from] = round
				onward[s.from] = i
				grown = true
			}
		}
	}
	return onward
}
