package run_test

import (
	"reflect"
	"slices"
	"testing"

	"unfold/api"
	"unfold/run"
)

// twice adds its parameter to itself within a function that it calls.
func twice() api.Program {
	return api.Program{Funcs: []api.Func{
		{Name: "f", File: "a", Params: 1, Locals: 2, Body: []api.Op{
			{Code: api.Call, Line: 1, A: 1, B: 1, Args: []int{0, 0}},
			{Code: api.Ret, Line: 2, A: 1},
		}},
		{Name: "g", File: "b", Params: 2, Locals: 2, Body: []api.Op{
			{Code: api.Add, Line: 3, A: 0, B: 0, C: 1},
			{Code: api.Ret, Line: 4, A: 0},
		}},
	}}
}

func TestStepByStep(t *testing.T) {
	for size := 1; size < 6; size++ {
		r, e := run.New(twice(), []int{21})
		if e != api.OK {
			t.Fatalf("New: %d", e)
		}
		for n := 0; n < 12; n += size {
			want, _ := run.Behind(twice(), []int{21}, n)
			if got := r.State(); !reflect.DeepEqual(got, want) {
				t.Errorf("behind %d steps, %d at once: %+v, want %+v", n, size, got, want)
			}
			left := min(size, max(0, 4-n))
			if taken, e := r.Step(size); taken != left || e != api.OK {
				t.Errorf("behind %d steps: Step(%d) = %d, %d, want %d", n, size, taken, e, left)
			}
		}
		if s := r.State(); s.Status != api.Done || s.Value != 42 || len(s.Frames) != 0 {
			t.Errorf("at the end: %+v", s)
		}
	}
}

func TestNewKeepsNothing(t *testing.T) {
	p := twice()
	args := []int{21}
	r, _ := run.New(p, args)
	args[0] = 5
	p.Funcs[0].Body[0].Args[1] = 1
	p.Funcs[1].Body[0].Code = api.Sub
	p.Funcs[1] = p.Funcs[0]
	r.Step(100)
	if s := r.State(); s.Status != api.Done || s.Value != 42 {
		t.Errorf("a run whose program was changed: %+v", s)
	}
}

func TestNewWrong(t *testing.T) {
	broken := twice()
	broken.Funcs[1].Body[1].Line = 0
	for _, c := range []struct {
		p    api.Program
		args []int
		e    api.Errno
	}{
		{broken, []int{1, 2}, api.ErrOp}, {api.Program{}, nil, api.ErrFuncs}, {twice(), nil, api.ErrArg}, {twice(), []int{1000}, api.ErrArg},
	} {
		r, e := run.New(c.p, c.args)
		if e != c.e {
			t.Errorf("New(.., %v): %d, want %d", c.args, e, c.e)
		}
		r.Step(3)
		if s := r.State(); s.Status != 0 || s.Value != 0 || len(s.Frames) != 0 {
			t.Errorf("no run stands at %+v", s)
		}
	}
}

func TestStepOfNone(t *testing.T) {
	r, _ := run.New(twice(), []int{1})
	want := r.State()
	for _, n := range []int{0, -1, -1 << 63, api.MaxSteps + 1, 1<<63 - 1} {
		wantE := api.ErrArg
		if n == 0 {
			wantE = api.OK
		}
		if taken, e := r.Step(n); taken != 0 || e != wantE {
			t.Errorf("Step(%d) = %d, %d, want %d", n, taken, e, wantE)
		}
		if got := r.State(); !reflect.DeepEqual(got, want) {
			t.Errorf("Step(%d): %+v, want %+v", n, got, want)
		}
	}
}

func TestSpots(t *testing.T) {
	r, _ := run.New(twice(), []int{21})
	for n, want := range [][]run.Spot{{{Func: 0, Op: 0}}, {{Func: 0, Op: 0}, {Func: 1, Op: 0}}, {{Func: 0, Op: 0}, {Func: 1, Op: 1}}, {{Func: 0, Op: 1}}, {}} {
		if l := r.Spots(); !slices.Equal(l, want) {
			t.Errorf("behind %d steps: %v, want %v", n, l, want)
		}
		r.Step(1)
	}
}
