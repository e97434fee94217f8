package rule

import "rewrite/api"

// Net: the words of a pattern.
// Each letter, dot and set of letters of the pattern is a place of the net, and takes one letter; a word is of the net if it can go from a first place along next ones to a last one.
// So a pattern has no more places than bytes, however its stars and brackets lie.
type Net struct {
	places []place
	whole  piece
}

// place: the letters that it takes, and the places that may come behind it.
type place struct {
	takes [api.Letters]bool
	next  set
}

// piece: a part of a pattern: whether the empty word is of it, the places with which its words begin, and those with which they end.
type piece struct {
	empty bool
	first set
	last  set
}

// set: of places, a bit for each. A rule has at most MaxSide + MaxCtx of them.
type set uint32

func single(place int) set {
	if place < 0 {
		return 0
	}
	return 1 << uint(place)
}

func (s set) has(place int) bool { return s&single(place) != 0 }

// add: a new place.
func (n *Net) add(takes [api.Letters]bool) piece {
	here := single(len(n.places))
	n.places = append(n.places, place{takes: takes})
	return piece{first: here, last: here}
}

// lead: what may come behind the places of a set.
func (n *Net) lead(from set, to set) {
	for i := range n.places {
		if from.has(i) {
			n.places[i].next |= to
		}
	}
}

// join: the words of one piece, with words of another behind them.
func (n *Net) join(x piece, y piece) piece {
	n.lead(x.last, y.first)
	both := piece{empty: x.empty && y.empty, first: x.first, last: y.last}
	if x.empty {
		both.first |= y.first
	}
	if y.empty {
		both.last |= x.last
	}
	return both
}

// repeat: any number of words of a piece, one behind the other.
func (n *Net) repeat(x piece) piece {
	n.lead(x.last, x.first)
	x.empty = true
	return x
}

// either: the words of both pieces.
func either(x piece, y piece) piece {
	return piece{empty: x.empty || y.empty, first: x.first | y.first, last: x.last | y.last}
}

// A net is walked along by a word in steps, from state to state: a state is the set of the places that may take the next letter, as a number; one more number is the state of words that begin with a word of the net.

// States: states are numbers from 0 on, less than this.
func (n Net) States() int { return int(n.hit()) + 1 }

// Start: the state of the empty word.
func (n Net) Start() int {
	if n.whole.empty {
		return int(n.hit())
	}
	return int(n.whole.first)
}

// IsHit: whether a state is that of words that begin with a word of the net.
func (n Net) IsHit(state int) bool { return state == int(n.hit()) }

// Step: the state behind one more letter (0 for a, and so on).
func (n Net) Step(state int, letter int) int {
	if letter < 0 || letter >= api.Letters || n.IsHit(state) {
		return state
	}
	var next set
	for i, p := range n.places {
		if !set(state).has(i) || !p.takes[letter] {
			continue
		}
		if n.whole.last.has(i) {
			return int(n.hit())
		}
		next |= p.next
	}
	return int(next)
}

func (n Net) hit() set { return single(len(n.places)) }
