package twin

import (
	"rewrite/api"
	"rewrite/foresee"
	"rewrite/letter"
)

// circle: onward from a pair: the word to the first pair that is come to again, the word round from there, and that pair.
func (g *graph) circle(from int) (string, string, int) {
	var met []int
	w := ""
	for g.onward[from] >= 0 {
		for i, p := range met {
			if p == from {
				return w[:i], w[i:], from
			}
		}
		met = append(met, from)
		s := g.steps[g.onward[from]]
		w += letter.Texts[s.l : s.l+1]
		from = s.to
	}
	return w, "", from
}

// weigh: the witness of a word to a pair, and a word from there round to it, if going round makes what is said part more and more.
func (g *graph) weigh(x string, y string, at int) (api.Witness, bool) {
	p := g.pairs[at]
	one := follow(g.view, x, y, p[0].kind)
	other := follow(g.view, x, y, p[1].kind)
	c, ok := timesAhead(one, other)
	if !ok {
		return api.Witness{}, false
	}
	words := g.view.Kinds.Words
	w := api.Witness{X: x, Y: y, Z1: words[p[0].kind], Z2: words[p[1].kind], C: c}
	return settle(w), true
}

// mostTimes: the greatest C that a witness may have.
const mostTimes = 400

// settle lays what is too much for C into X: it is the same word in the end.
func settle(w api.Witness) api.Witness {
	for w.C > mostTimes {
		w.X += w.Y
		w.C--
	}
	return w
}

// way: what is said of a word to a pair, then of each word round, and of a word of the kind that was told, in the end.
type way struct {
	to    string
	round string
	rest  string
}

func follow(v foresee.View, x string, y string, kind int) way {
	to, toCome := v.Run(x, kind, 0)
	round, _ := v.Run(y, kind, toCome)
	rest, _ := v.Run(v.Kinds.Words[kind], 0, toCome)
	return way{to: to, round: round, rest: rest}
}

// timesAhead: how many times to go round, so that from then on each time adds a letter at least to what parts the two; false if there is no such number.
func timesAhead(one way, other way) (int, bool) {
	if len(one.round) == len(other.round) {
		return timesToPart(one, other)
	}
	if len(one.round) < len(other.round) {
		return timesToOutgrow(other, one)
	}
	return timesToOutgrow(one, other)
}

// timesToOutgrow: the first says more each time; until it has made up for what it was behind.
func timesToOutgrow(one way, other way) (int, bool) {
	behind := len(other.to) + len(other.rest) - len(one.to) - len(one.rest)
	gain := len(one.round) - len(other.round)
	if behind <= 0 || gain <= 0 {
		return 0, gain > 0
	}
	return (behind + gain - 1) / gain, true
}

// timesToPart: both say as much; until both have said the first letter in which they differ. Each time round then adds its letters behind it.
func timesToPart(one way, other way) (int, bool) {
	size := len(one.round)
	if size == 0 {
		return 0, false
	}
	least := len(one.to)
	most := len(other.to)
	if least > most {
		least = len(other.to)
		most = len(one.to)
	}
	// Beyond what was said on the way both go on with as many letters again and again, so one time round tells all.
	for i := 0; i < most+size; i++ {
		c := one.at(i)
		if other.at(i) == c {
			continue
		}
		if i < least {
			return 0, true
		}
		return (i-least)/size + 1, true
	}
	return 0, false
}

// at: a letter of what is said if it goes round without end.
func (w way) at(i int) byte {
	if i < len(w.to) {
		return w.to[i]
	}
	if len(w.round) == 0 {
		return 0
	}
	return w.round[(i-len(w.to))%len(w.round)]
}
