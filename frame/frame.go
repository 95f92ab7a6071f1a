// Package frame: frames as text (P10).
package frame

import (
	"strconv"

	"unfold/api"
	"unfold/word"
)

// Print writes frames, one in a line.
func Print(l []api.Frame) (string, api.Errno) {
	// Bytes, and not a string that grows: that one would be copied for each frame.
	var b []byte
	for _, f := range l {
		if !mayBe(f) {
			return "", api.ErrFrame
		}
		b = append(b, f.Func...)
		b = append(b, ' ')
		b = append(b, f.File...)
		b = append(b, ':')
		b = append(b, strconv.Itoa(f.Line)...)
		b = append(b, '\n')
	}
	return string(b), api.OK
}

func mayBe(f api.Frame) bool {
	return word.Is(f.Func) && word.Is(f.File) && f.Line >= 1 && f.Line <= api.MaxLine
}
