package early

import (
	"rewrite/api"
	"rewrite/foresee"
	"rewrite/letter"
)

// outlook: for each kind of what follows, and each number of letters of a match that are to come, what can be told of what will be said.
type outlook struct {
	view foresee.View
	// sure: what is common to all that may be said.
	sure [][api.MaxSide]string
	// apart: whether two numbers of letters to come lead to something else behind what is sure.
	apart [][api.MaxSide][api.MaxSide]bool
}

func newOutlook(v foresee.View) outlook {
	o := outlook{view: v}
	o.findSure()
	o.findApart()
	return o
}

// findSure begins with what is said of one word of each kind, and cuts it until it fits all others.
// Nothing is cut that is common to all; and cutting ends, since it only makes shorter.
func (o *outlook) findSure() {
	for k, w := range o.view.Kinds.Words {
		o.sure = append(o.sure, [api.MaxSide]string{})
		for toCome := range o.sure[k] {
			said, _ := o.view.Run(w, 0, toCome)
			o.sure[k][toCome] = said
		}
	}
	cut := true
	for cut {
		cut = false
		for k, ahead := range o.view.Kinds.Ahead {
			for l, longer := range ahead {
				if o.cut(longer, l, k) {
					cut = true
				}
			}
		}
	}
}

// cut: what is sure of a kind, to what is sure of its words that begin with a letter and have another kind behind it; whether that is less.
func (o *outlook) cut(kind int, l int, next int) bool {
	isLess := false
	for toCome, sure := range o.sure[kind] {
		said, left := o.view.Step(kind, toCome, l)
		n := letter.Common(sure, said+o.sure[next][left])
		if n < len(sure) {
			o.sure[kind][toCome] = sure[:n]
			isLess = true
		}
	}
	return isLess
}

// step: what a letter makes sure beyond what was, if a kind is known to stand behind it, and how many letters are to come then.
func (o *outlook) step(kind int, toCome int, l int, next int) (string, int) {
	said, left := o.view.Step(kind, toCome, l)
	whole := said + o.sure[next][left]
	known := len(o.sure[kind][toCome])
	if known > len(whole) {
		return "", left
	}
	return whole[known:], left
}

// findApart goes on until no letter tells more apart. Since all that is sure has been said, what a letter makes sure is alike just if all that may be said behind is.
func (o *outlook) findApart() {
	o.apart = make([][api.MaxSide][api.MaxSide]bool, len(o.sure))
	grown := true
	for grown {
		grown = false
		for k, ahead := range o.view.Kinds.Ahead {
			for l, longer := range ahead {
				if o.tellApart(longer, l, k) {
					grown = true
				}
			}
		}
	}
}

func (o *outlook) tellApart(kind int, l int, next int) bool {
	grown := false
	for x := 0; x < api.MaxSide; x++ {
		saidX, leftX := o.step(kind, x, l, next)
		for y := 0; y < api.MaxSide; y++ {
			saidY, leftY := o.step(kind, y, l, next)
			differ := saidX != saidY || o.apart[next][leftX][leftY]
			if differ && !o.apart[kind][x][y] {
				o.apart[kind][x][y] = true
				grown = true
			}
		}
	}
	return grown
}

// least: of the numbers of letters to come that are not apart the least stands for all.
func (o *outlook) least(kind int, toCome int) int {
	least := 0
	for least < toCome && o.apart[kind][least][toCome] {
		least++
	}
	return least
}
