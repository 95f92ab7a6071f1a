package program_test

import (
	"reflect"
	"testing"

	"unfold/api"
	"unfold/program"
)

func TestIsValue(t *testing.T) {
	for _, c := range []struct {
		n    int
		want bool
	}{
		{-1 << 63, false}, {-1, false}, {0, true}, {1, true}, {999, true}, {1000, false}, {1<<63 - 1, false},
	} {
		if got := program.IsValue(c.n); got != c.want {
			t.Errorf("IsValue(%d) = %v", c.n, got)
		}
	}
}

func pair() api.Program {
	return api.Program{Funcs: []api.Func{
		{Name: "f", File: "a", Params: 2, Locals: 3, Body: []api.Op{
			{Code: api.Call, Line: 1, A: 2, B: 1, C: 7, Args: []int{0, 1}},
			{Code: api.Ret, Line: 2, A: 2},
		}},
		{Name: "g", File: "b", Params: 2, Locals: 2, Body: []api.Op{{Code: api.Ret, Line: 3, A: 1}}},
	}}
}

func TestCopyStaysAsItIs(t *testing.T) {
	p := pair()
	c := program.Copy(p)
	if !reflect.DeepEqual(c, pair()) {
		t.Fatalf("Copy = %+v, want %+v", c, pair())
	}
	p.Funcs[0].Body[0].Args[1] = 9
	p.Funcs[0].Body[0].Line = 9
	p.Funcs[1].Name = "h"
	if !reflect.DeepEqual(c, pair()) {
		t.Errorf("the copy has become %+v", c)
	}
}

func TestCopyLeavesArgsOfOthersOut(t *testing.T) {
	p := pair()
	p.Funcs[0].Body[1].Args = make([]int, 1<<20)
	if c := program.Copy(p); len(c.Funcs[0].Body[1].Args) != 0 {
		t.Errorf("%d Args of a Ret were copied", len(c.Funcs[0].Body[1].Args))
	}
}

func TestCopyOfNothing(t *testing.T) {
	if c := program.Copy(api.Program{}); len(c.Funcs) != 0 {
		t.Errorf("Copy of no functions = %+v", c)
	}
}
