package table

import (
	"slices"
	"testing"

	"unfold/api"
)

// P4: each rule of a well-formed table, kept just so and just broken.
func TestWellFormed(t *testing.T) {
	const most = 1<<63 - 1
	for _, c := range []struct {
		why string
		l   []api.Span
		ok  bool
	}{
		{"nil", nil, false},
		{"empty", []api.Span{}, false},
		{"the least", []api.Span{{Value: 0, Len: 1}}, true},
		{"the greatest Value", []api.Span{{Value: api.MaxValue, Len: 1}}, true},
		{"a Value too great", []api.Span{{Value: api.MaxValue + 1, Len: 1}}, false},
		{"a Value below 0", []api.Span{{Value: -1, Len: 1}}, false},
		{"a later Value below 0", []api.Span{{Value: 1, Len: 1}, {Value: -1, Len: 1}}, false},
		{"a Len 0", []api.Span{{Value: 1, Len: 0}}, false},
		{"a later Len 0", []api.Span{{Value: 1, Len: 1}, {Value: 2, Len: 0}}, false},
		{"a Len below 0", []api.Span{{Value: 1, Len: 5}, {Value: 2, Len: -1}}, false},
		{"Lens just as many", []api.Span{{Value: 1, Len: 999}, {Value: 2, Len: 1}}, true},
		{"one Len too great", []api.Span{{Value: 1, Len: 1001}}, false},
		{"Lens together too many", []api.Span{{Value: 1, Len: 999}, {Value: 2, Len: 2}}, false},
		{"Lens that overflow", []api.Span{{Value: 1, Len: most}, {Value: 2, Len: most}, {Value: 1, Len: 3}}, false},
		{"one and all", []api.Span{{Value: 1, Len: 1}, {Value: 2, Len: most}}, false},
		{"neighbours alike", []api.Span{{Value: 0, Len: 1}, {Value: 0, Len: 1}}, false},
		{"later neighbours alike", []api.Span{{Value: 0, Len: 1}, {Value: 3, Len: 1}, {Value: 3, Len: 2}}, false},
		{"alike, but no neighbours", []api.Span{{Value: 3, Len: 1}, {Value: 0, Len: 1}, {Value: 3, Len: 1}}, true},
	} {
		if ok := WellFormed(c.l); ok != c.ok {
			t.Errorf("%s: WellFormed(%v) = %t", c.why, c.l, ok)
		}
	}
}

// What a table is taken apart into is what At looks up.
func TestValues(t *testing.T) {
	for _, l := range [][]api.Span{
		{{Value: 0, Len: 1}},
		{{Value: 3, Len: 1}, {Value: 4, Len: 1}},
		{{Value: 7, Len: 2}, {Value: 2, Len: 300}, {Value: 7, Len: 1}},
		{{Value: 9999, Len: 999}, {Value: 0, Len: 1}},
	} {
		values := Values(l)
		if len(values) != Pcs(l) {
			t.Errorf("Values(%v): %d, and Pcs %d", l, len(values), Pcs(l))
		}
		for pc, v := range values {
			if want, e := At(l, pc); e != api.OK || v != want {
				t.Errorf("Values(%v)[%d] = %d, want %d, %d", l, pc, v, want, e)
			}
		}
		if _, e := At(l, len(values)); e != api.ErrArg {
			t.Errorf("At(%v, %d): %d", l, len(values), e)
		}
	}
	if n := Pcs(nil); n != 0 {
		t.Errorf("Pcs of nothing: %d", n)
	}
}

// Of is what Values is taken back by: no two neighbours have the same Value.
func TestOf(t *testing.T) {
	for _, l := range [][]api.Span{
		nil,
		{{Value: 0, Len: 1}},
		{{Value: 3, Len: 1}, {Value: 4, Len: 1}, {Value: 3, Len: 1}},
		{{Value: 7, Len: 2}, {Value: 2, Len: 300}, {Value: 7, Len: 1}},
		{{Value: 9999, Len: 999}, {Value: 0, Len: 1}},
		{{Value: 5, Len: 1000}},
	} {
		if got := Of(Values(l)); !slices.Equal(got, l) {
			t.Errorf("Of(Values(%v)) = %v", l, got)
		}
	}
}
