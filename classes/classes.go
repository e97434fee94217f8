// Package classes: things that lead to others by letters, put together where nothing tells them apart.
package classes

import "rewrite/api"

// Classes: of things numbered from 0 on: which class each is of, and how many classes there are.
// Classes are numbered from 0 on too, as they are met in the order of the things.
type Classes struct {
	Of    []int
	Count int
}

// Refine splits classes until by every letter things of one class lead to things of one class.
// Splitting only adds classes, so it ends; it stops early when there are more than most of them.
func Refine(c Classes, next [][api.Letters]int, most int) Classes {
	for c.Count <= most {
		count := c.Count
		for l := 0; l < api.Letters && c.Count <= most; l++ {
			c = split(c, next, l)
		}
		if c.Count == count {
			break
		}
	}
	return c
}

// split tells things apart by the classes of what a letter leads to.
func split(c Classes, next [][api.Letters]int, l int) Classes {
	// For each pair of a class and the class led to, the number of the new class, and 1 more; 0 if the pair was not met.
	met := make([]int, c.Count*c.Count)
	finer := Classes{Of: make([]int, len(next))}
	for i, to := range next {
		pair := c.Of[i]*c.Count + c.Of[to[l]]
		if met[pair] == 0 {
			finer.Count++
			met[pair] = finer.Count
		}
		finer.Of[i] = met[pair] - 1
	}
	return finer
}
