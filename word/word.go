// Package word: the names of functions and files.
package word

import "unfold/api"

// Is tells whether a text is a word.
func Is(s string) bool {
	if len(s) < 1 || len(s) > api.MaxText {
		return false
	}
	for k := 0; k < len(s); k++ {
		if !mayStand(s[k]) {
			return false
		}
	}
	return true
}

func mayStand(c byte) bool {
	return c >= 'a' && c <= 'z' || c >= '0' && c <= '9' || c == '.' || c == '/'
}
