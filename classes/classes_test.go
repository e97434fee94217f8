package classes_test

import (
	"slices"
	"testing"

	"rewrite/classes"
)

// row: n things, each leading to the one before it by a letter, and to itself by the others.
func row(n int, l int) [][4]int {
	var next [][4]int
	for i := range n {
		to := [4]int{i, i, i, i}
		to[l] = max(i-1, 0)
		next = append(next, to)
	}
	return next
}

func TestRefine(t *testing.T) {
	for l := range 4 {
		// The first thing is told from the others at once, the second from those behind it by one letter, and so on.
		c := classes.Refine(classes.Classes{Of: []int{0, 1, 1, 1, 1}, Count: 2}, row(5, l), 5)
		if c.Count != 5 || !slices.Equal(c.Of, []int{0, 1, 2, 3, 4}) {
			t.Errorf("by letter %d: %v", l, c)
		}
		c = classes.Refine(classes.Classes{Of: []int{0, 0, 0, 0, 0}, Count: 1}, row(5, l), 5)
		if c.Count != 1 || !slices.Equal(c.Of, []int{0, 0, 0, 0, 0}) {
			t.Errorf("by letter %d, of one class: %v", l, c)
		}
	}
}

func TestRefineNumbersAsMet(t *testing.T) {
	next := [][4]int{{2, 0, 0, 0}, {3, 0, 0, 0}, {2, 0, 0, 0}, {3, 0, 0, 0}, {3, 0, 0, 0}}
	c := classes.Refine(classes.Classes{Of: []int{0, 0, 0, 1, 0}, Count: 2}, next, 5)
	if c.Count != 3 || !slices.Equal(c.Of, []int{0, 1, 0, 2, 1}) {
		t.Errorf("%v", c)
	}
}

func TestRefineStops(t *testing.T) {
	start := make([]int, 1000)
	for i := range start {
		start[i] = min(i, 1)
	}
	c := classes.Refine(classes.Classes{Of: start, Count: 2}, row(1000, 0), 10)
	if c.Count != 11 {
		t.Errorf("it went on to %d classes", c.Count)
	}
	if start[0] != 0 || start[999] != 1 {
		t.Errorf("what was handed in was changed")
	}
}
