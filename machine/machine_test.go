package machine_test

import (
	"slices"
	"testing"

	"unfold/api"
	"unfold/machine"
)

// twice calls a function that calls one which adds its parameter to itself.
func twice() api.Program {
	return api.Program{Funcs: []api.Func{
		{Name: "f", File: "a", Params: 1, Locals: 1, Body: []api.Op{{Code: api.Call, Line: 1, B: 1, Args: []int{0}}, {Code: api.Ret, Line: 2}}},
		{Name: "g", File: "b", Params: 1, Locals: 1, Body: []api.Op{{Code: api.Call, Line: 3, B: 2, Args: []int{0}}, {Code: api.Ret, Line: 4}}},
		{Name: "h", File: "b", Params: 1, Locals: 1, Body: []api.Op{{Code: api.Add, Line: 5}, {Code: api.Ret, Line: 6}}},
	}}
}

// P12: the pcs of each step, with none inlined and with all.
func TestPcs(t *testing.T) {
	for budget, pcs := range map[int][][]int{
		1: {{0}, {2, 1}, {4, 3, 1}, {5, 3, 1}, {3, 1}, {1}, {}},
		2: {{0}, {1}, {2}, {3}, {4}, {5}, {}},
	} {
		m, e := machine.New(twice(), budget, []int{21})
		if e != api.OK {
			t.Fatalf("New: %d", e)
		}
		for n, want := range pcs {
			if l := m.Pcs(); !slices.Equal(l, want) {
				t.Errorf("budget %d, behind %d steps: %v, want %v", budget, n, l, want)
			}
			m.Step(1)
		}
		if status, value := m.State(); status != api.Done || value != 42 {
			t.Errorf("at the end: %d, %d", status, value)
		}
	}
}

// What New gives beside an error is a machine without a run.
func TestNewWrong(t *testing.T) {
	for _, c := range []struct {
		p      api.Program
		budget int
		args   []int
		e      api.Errno
	}{
		{api.Program{}, -1, nil, api.ErrFuncs}, {twice(), -1, []int{1}, api.ErrArg}, {twice(), 30, nil, api.ErrArg},
	} {
		m, e := machine.New(c.p, c.budget, c.args)
		if e != c.e {
			t.Errorf("New(.., %d, %v): %d, want %d", c.budget, c.args, e, c.e)
		}
		taken, e := m.Step(3)
		status, value := m.State()
		if taken != 0 || e != api.OK || status != 0 || value != 0 || len(m.Pcs()) != 0 {
			t.Errorf("a machine without a run: %d, %d, %d, %d, %v", taken, e, status, value, m.Pcs())
		}
	}
}

// P13: the text is the same by every budget that may be.
func TestTrace(t *testing.T) {
	for budget := -1; budget <= 31; budget++ {
		s, e := machine.Trace(twice(), budget, []int{21}, 2)
		if budget < 0 || budget > 30 {
			if e != api.ErrArg || s != "" {
				t.Errorf("Trace(.., %d) = %q, %d, want ErrArg", budget, s, e)
			}
			continue
		}
		if e != api.OK || s != "h b:5\ng b:3\nf a:1\n" {
			t.Errorf("Trace(.., %d) = %q, %d", budget, s, e)
		}
	}
}
