// Package letter: the letters that texts are of, and those that may be said.
package letter

// Texts: the letters that texts are of, in their order.
const Texts = "abcd"

// Said: the letters that may be said.
const Said = "abcdABCD"

// Is: whether a byte is a letter that texts are of.
func Is(c byte) bool { return c >= 'a' && c <= 'd' }

// IsSaid: whether a byte is a letter that may be said.
func IsSaid(c byte) bool { return Is(c) || c >= 'A' && c <= 'D' }

// IsWord: whether all bytes are letters that texts are of.
func IsWord(w string) bool {
	for i := 0; i < len(w); i++ {
		if !Is(w[i]) {
			return false
		}
	}
	return true
}

// Number: the place of a letter that texts are of among them; of any other byte 0.
func Number(c byte) int {
	if !Is(c) {
		return 0
	}
	return int(c - Texts[0])
}

// Common: with how many letters two words begin alike.
func Common(v string, w string) int {
	n := 0
	for n < len(v) && n < len(w) && v[n] == w[n] {
		n++
	}
	return n
}
