package word_test

import (
	"strings"
	"testing"

	"unfold/word"
)

func TestLengths(t *testing.T) {
	for n := range 50 {
		if got, want := word.Is(strings.Repeat("a", n)), n >= 1 && n <= 20; got != want {
			t.Errorf("Is of %d letters: %v", n, got)
		}
	}
	if word.Is(strings.Repeat("a", 1<<22)) {
		t.Error("Is of many letters: true")
	}
}

func TestEveryByteAtEveryPlace(t *testing.T) {
	for c := range 256 {
		want := strings.IndexByte("abcdefghijklmnopqrstuvwxyz0123456789./", byte(c)) >= 0
		for _, n := range []int{1, 2, 3, 20} {
			for at := range n {
				b := []byte(strings.Repeat("m", n))
				b[at] = byte(c)
				if got := word.Is(string(b)); got != want {
					t.Errorf("Is(%q) = %v", b, got)
				}
			}
		}
	}
}
