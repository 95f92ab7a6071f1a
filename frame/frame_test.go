package frame

import (
	"testing"

	"unfold/api"
)

// P10: a frame to a line, in their order.
func TestPrint(t *testing.T) {
	l := []api.Frame{{Func: "b/c", File: "x.y", Line: 9999}, {Func: "a", File: "b", Line: 1}}
	if s, e := Print(l); e != api.OK || s != "b/c x.y:9999\na b:1\n" {
		t.Errorf("Print = %q, %d", s, e)
	}
	if s, e := Print(nil); e != api.OK || s != "" {
		t.Errorf("Print of nothing = %q, %d", s, e)
	}
}

// P10: one frame that may not be, and nothing is written.
func TestPrintWrong(t *testing.T) {
	for _, f := range []api.Frame{
		{},
		{Func: "", File: "b", Line: 1}, {Func: "a", File: "", Line: 1}, {Func: "a b", File: "b", Line: 1}, {Func: "a", File: "b:", Line: 1},
		{Func: "a", File: "b", Line: 0}, {Func: "a", File: "b", Line: -1}, {Func: "a", File: "b", Line: 10000},
	} {
		if s, e := Print([]api.Frame{{Func: "a", File: "b", Line: 1}, f}); e != api.ErrFrame || s != "" {
			t.Errorf("Print(.., %+v) = %q, %d", f, s, e)
		}
	}
}
