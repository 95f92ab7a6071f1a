package code_test

import (
	"slices"
	"testing"

	"unfold/api"
	"unfold/code"
)

// chain is a program of functions that each call the next one, and the last one the first.
func chain(names ...string) api.Program {
	var p api.Program
	for k, name := range names {
		p.Funcs = append(p.Funcs, api.Func{Name: name, File: "f", Locals: 1, Body: []api.Op{
			{Code: api.Call, Line: 10*k + 1, B: (k + 1) % len(names)},
			{Code: api.Ret, Line: 10*k + 2},
		}})
	}
	return p
}

// P11: the places of each code, and where it begins.
func TestLay(t *testing.T) {
	for budget, want := range map[int][]code.Code{
		1: {
			{First: 0, Places: []code.Place{{Func: 0, Op: 0}, {Func: 0, Op: 1}}},
			{First: 2, Places: []code.Place{{Func: 1, Op: 0}, {Func: 1, Op: 1}}},
		},
		2: {
			{First: 0, Places: []code.Place{{Func: 0, Op: 0}, {Func: 1, Op: 0, Instance: 1}, {Func: 1, Op: 1, Instance: 1}, {Func: 0, Op: 1}}, Tree: []api.Node{{Func: 1, Pc: 0}}},
			{First: 4, Places: []code.Place{{Func: 1, Op: 0}, {Func: 0, Op: 0, Instance: 1}, {Func: 0, Op: 1, Instance: 1}, {Func: 1, Op: 1}}, Tree: []api.Node{{Func: 0, Pc: 0}}},
		},
	} {
		l, e := code.Lay(chain("a", "b"), budget)
		same := slices.EqualFunc(l, want, func(x, y code.Code) bool {
			return x.First == y.First && slices.Equal(x.Places, y.Places) && slices.Equal(x.Tree, y.Tree)
		})
		if e != api.OK || !same {
			t.Errorf("Lay(.., %d) = %+v, %d, want %+v", budget, l, e, want)
		}
	}
}

func TestLayWrong(t *testing.T) {
	broken := chain("a", "a")
	for _, c := range []struct {
		p      api.Program
		budget int
		e      api.Errno
	}{
		{api.Program{}, 0, api.ErrFuncs}, {broken, -1, api.ErrHead}, {chain("a"), -1, api.ErrArg}, {chain("a"), 31, api.ErrArg},
	} {
		if l, e := code.Lay(c.p, c.budget); e != c.e || len(l) != 0 {
			t.Errorf("Lay(.., %d) = %+v, %d, want %d", c.budget, l, e, c.e)
		}
		if b, e := code.Build(c.p, c.budget); e != c.e || len(b) != 0 {
			t.Errorf("Build(.., %d) = %v, %d, want %d", c.budget, b, e, c.e)
		}
	}
}

// Each place is found by its instance and op, each instance by the place of its Call.
func TestLookUp(t *testing.T) {
	l, e := code.Lay(chain("a", "b", "c", "d"), 2)
	if e != api.OK {
		t.Fatalf("Lay: %d", e)
	}
	for _, c := range l {
		for pc, p := range c.Places {
			if got := c.PlaceOf(p.Instance, p.Op); got != pc {
				t.Errorf("PlaceOf(%d, %d) = %d, want %d", p.Instance, p.Op, got, pc)
			}
			begun := 0
			if pc < 3 {
				begun = pc + 1
			}
			if k := c.BegunAt(pc); k != begun {
				t.Errorf("BegunAt(%d) = %d, want %d", pc, k, begun)
			}
		}
		for _, none := range [][2]int{{4, 0}, {0, 2}, {-1, 0}, {0, -1}} {
			if got := c.PlaceOf(none[0], none[1]); got != 8 {
				t.Errorf("PlaceOf(%d, %d) = %d, want 8", none[0], none[1], got)
			}
		}
	}
}
