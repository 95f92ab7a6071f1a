// Package image: what is known of a program's code, its bytes, and the frames
// that its pcs stand for (P7, P8, P9).
package image

import (
	"unfold/api"
	"unfold/table"
	"unfold/word"
)

// head stands in front of the bytes of every image.
var head = [3]byte{85, 70, 1}

// The first node's Pc is held against that of a node before it with this Pc.
const beforeFirst = -1

// WellFormed tells whether an image may be.
func WellFormed(i api.Image) bool {
	if !countMayBe(len(i.Funcs)) {
		return false
	}
	var names []string
	room := api.MaxCode
	for _, f := range i.Funcs {
		if !isNewWord(f.Name, names) || !word.Is(f.File) || !tablesMayBe(f, room) {
			return false
		}
		if !treeMayBe(f.Tree, f.Index, len(i.Funcs)) {
			return false
		}
		names = append(names, f.Name)
		room = room - table.Pcs(f.Lines)
	}
	return true
}

func countMayBe(funcs int) bool {
	return funcs >= 1 && funcs <= api.MaxFuncs
}

// isNewWord tells whether a text is a word, and none of those that are taken.
func isNewWord(s string, taken []string) bool {
	return word.Is(s) && placeOf(s, taken) == len(taken)
}

// placeOf tells where a text stands in a list; if it does not, the place behind the list.
func placeOf(s string, l []string) int {
	for k, other := range l {
		if other == s {
			return k
		}
	}
	return len(l)
}

// tablesMayBe looks at the tables of a function, where room pcs are left.
func tablesMayBe(f api.Entry, room int) bool {
	// Ahead of all else: the Lens of other lists could overflow together.
	if !table.WellFormed(f.Lines) || !table.WellFormed(f.Index) {
		return false
	}
	return linesMayBe(f.Lines, room) && table.Pcs(f.Index) == table.Pcs(f.Lines)
}

// linesMayBe tells whether a table may stand as Lines, where room pcs are left.
func linesMayBe(l []api.Span, room int) bool {
	for _, s := range l {
		if s.Value == 0 {
			return false
		}
	}
	return table.Pcs(l) <= room
}

// treeMayBe looks at the nodes of a function whose Index is a table.
func treeMayBe(tree []api.Node, index []api.Span, funcs int) bool {
	if len(tree) != nodes(index) {
		return false
	}
	instances := table.Values(index)
	before := beforeFirst
	for k, n := range tree {
		if !funcMayBe(n.Func, funcs) || !pcMayBe(n.Pc, before, k+1, instances) {
			return false
		}
		before = n.Pc
	}
	return true
}

// nodes tells how many nodes a function has: the greatest Value in its Index.
func nodes(index []api.Span) int {
	n := 0
	for _, s := range index {
		if s.Value > n {
			n = s.Value
		}
	}
	return n
}

func funcMayBe(fn, funcs int) bool {
	return fn >= 0 && fn < funcs
}

// pcMayBe looks at the Pc of node k, behind a node with the Pc before, in a code
// with an instance at each place.
func pcMayBe(pc, before, k int, instances []int) bool {
	// What is above before is not below 0; and pc + 1 must be a place too.
	if pc <= before || pc >= len(instances)-1 {
		return false
	}
	return instances[pc] < k && instances[pc+1] == k
}
