package image

import (
	"testing"

	"unfold/api"
)

// P7: each rule of a node's Pc, kept just so and just broken.
func TestPcMayBe(t *testing.T) {
	for _, c := range []struct {
		why           string
		pc, before, k int
		instances     []int
		ok            bool
	}{
		{"the first two places", 0, -1, 1, []int{0, 1}, true},
		{"a Pc below 0", -1, -1, 1, []int{1, 1}, false},
		{"no place behind the Pc", 1, -1, 1, []int{0, 0}, false},
		{"no such place", 2, -1, 1, []int{0, 1}, false},
		{"the greatest Pc", 1<<63 - 1, -1, 1, []int{0, 1}, false},
		{"the least Pc", -1 << 63, -1, 1, []int{0, 1}, false},
		{"one place", 0, -1, 1, []int{1}, false},
		{"no place", 0, -1, 1, nil, false},
		{"another instance behind the Pc", 0, -1, 1, []int{0, 2}, false},
		{"a Call in its own instance", 0, -1, 1, []int{1, 1}, false},
		{"a Call in a later instance", 0, -1, 1, []int{2, 1}, false},
		{"a Call in the instance before", 1, 0, 2, []int{0, 1, 2}, true},
		{"a Call in instance 0", 2, 0, 2, []int{0, 1, 0, 2}, true},
		{"the Pc of the node before", 0, 0, 2, []int{0, 2}, false},
		{"a Pc ahead of the node before", 0, 2, 2, []int{0, 2, 0, 1}, false},
	} {
		if ok := pcMayBe(c.pc, c.before, c.k, c.instances); ok != c.ok {
			t.Errorf("%s: %t", c.why, ok)
		}
	}
}

// P7: the nodes are as many as the greatest Value, wherever it stands.
func TestNodes(t *testing.T) {
	for want, index := range [][]api.Span{
		{{Value: 0, Len: 4}},
		{{Value: 0, Len: 1}, {Value: 1, Len: 1}},
		{{Value: 2, Len: 1}, {Value: 0, Len: 1}, {Value: 1, Len: 1}},
		{{Value: 0, Len: 1}, {Value: 3, Len: 1}, {Value: 1, Len: 1}},
	} {
		if n := nodes(index); n != want {
			t.Errorf("nodes(%v) = %d, want %d", index, n, want)
		}
	}
}

// P7: what Encode writes is what Decode reads, at the least image.
func TestLeastImage(t *testing.T) {
	i := api.Image{Funcs: []api.Entry{{Name: "f", File: "f", Lines: []api.Span{{Value: 1, Len: 1}}, Index: []api.Span{{Value: 0, Len: 1}}}}}
	b, e := Encode(i)
	if e != api.OK || string(b) != "\x55\x46\x01\x01\x01f\x00\x01f\x04\x01\x00\x02\x01\x00" {
		t.Fatalf("Encode = %v, %d", b, e)
	}
	got, e, at := Decode(b)
	if e != api.OK || at != 0 || len(got.Funcs) != 1 || !WellFormed(got) {
		t.Errorf("Decode(%v) = %+v, %d, %d", b, got, e, at)
	}
	l, e := Symbolize(b, []int{0, 1})
	if e != api.OK || len(l) != 2 || l[0] != l[1] || l[0] != (api.Frame{Func: "f", File: "f", Line: 1}) {
		t.Errorf("Symbolize = %v, %d", l, e)
	}
}
