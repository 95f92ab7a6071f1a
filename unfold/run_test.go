package unfold_test

import (
	"fmt"
	"math/rand"
	"slices"
	"strings"
	"testing"

	"unfold/api"
	"unfold/unfold"
)

// halves divides by 2 until the rest is 0, in two functions that call each other.
func halves() api.Program {
	return api.Program{Funcs: []api.Func{
		{Name: "main", File: "m/a.x", Params: 1, Locals: 3, Body: []api.Op{op(api.Set, 1, 2, 2, 0), call(2, 1, 1, 0, 2), op(api.Add, 3, 1, 1, 2), ret(4, 1)}},
		{Name: "odd", File: "m/b.x", Params: 2, Locals: 3, Body: []api.Op{op(api.Jump, 5, 0, 2, 0), ret(6, 0), op(api.Div, 7, 0, 0, 1), call(8, 2, 2, 1, 0), ret(9, 2)}},
		{Name: "even", File: "m/b.x", Params: 2, Locals: 2, Body: []api.Op{op(api.Jump, 10, 1, 2, 0), ret(11, 1), op(api.Div, 12, 1, 1, 0), call(13, 1, 1, 1, 0), ret(14, 1)}},
	}}
}

// down calls itself as often as its argument says; last is what stands in the innermost frame.
func down(last ...api.Op) api.Program {
	body := append([]api.Op{op(api.Jump, 30, 0, len(last)+1, 0)}, last...)
	body = append(body, op(api.Set, 50, 1, 1, 0), op(api.Sub, 60, 0, 0, 1), call(70, 1, 0, 0), ret(80, 1))
	return api.Program{Funcs: []api.Func{{Name: "rec", File: "r", Params: 1, Locals: 2, Body: body}}}
}

// stack writes frames in one line.
func stack(l []api.Frame) string {
	var s []string
	for _, f := range l {
		s = append(s, fmt.Sprint(f.Func, " ", f.File, " ", f.Line))
	}
	return strings.Join(s, ", ")
}

// runs fails if a run does not stand as it should behind n steps.
func runs(t *testing.T, p api.Program, args []int, n int, status, value int, frames string) {
	t.Helper()
	s, e := unfold.Run(p, args, n)
	if e != api.OK || s.Status != status || s.Value != value || stack(s.Frames) != frames {
		t.Errorf("Run(.., %v, %d) = %+v, %d, want %d, %d, %s", args, n, s, e, status, value, frames)
	}
}

func TestP6Example(t *testing.T) {
	for n, frames := range []string{
		"main a 3", "half b 7, main a 3", "half b 8, main a 3", "div b 12, half b 8, main a 3",
		"div b 13, half b 8, main a 3", "half b 9, main a 3", "main a 4",
	} {
		runs(t, small(), []int{6}, n, api.Runs, 0, frames)
	}
	for _, n := range []int{7, 8, 100, 1999, 2000} {
		runs(t, small(), []int{6}, n, api.Done, 3, "")
	}
	runs(t, small(), []int{7}, 7, api.Done, 3, "")
	runs(t, small(), []int{0}, 7, api.Done, 0, "")
	runs(t, small(), []int{999}, 7, api.Done, 499, "")
}

// Each op on all pairs of some values, with A one of its own operands or none.
func TestP6Ops(t *testing.T) {
	values := []int{0, 1, 2, 3, 7, 10, 333, 499, 500, 501, 997, 998, 999}
	for _, x := range values {
		for _, y := range values {
			for a := range 3 {
				runs(t, one(2, 3, op(api.Add, 5, a, 0, 1), ret(6, a)), []int{x, y}, 2, api.Done, (x+y)%1000, "")
				runs(t, one(2, 3, op(api.Sub, 5, a, 0, 1), ret(6, a)), []int{x, y}, 2, api.Done, (1000+x-y)%1000, "")
				if y == 0 {
					runs(t, one(2, 3, op(api.Div, 5, a, 0, 1), ret(6, a)), []int{x, y}, 1, api.Zero, 0, "f f 5")
					continue
				}
				runs(t, one(2, 3, op(api.Div, 5, a, 0, 1), ret(6, a)), []int{x, y}, 2, api.Done, x/y, "")
			}
		}
		runs(t, one(1, 8, op(api.Set, 5, 7, x, 0), ret(6, 7)), []int{5}, 2, api.Done, x, "")
		runs(t, one(1, 1, op(api.Sub, 5, 0, 0, 0), ret(6, 0)), []int{x}, 2, api.Done, 0, "")
	}
}

// An op sets local A, and no other one.
func TestP6OtherLocals(t *testing.T) {
	for _, o := range []api.Op{op(api.Set, 1, 1, 77, 0), op(api.Add, 1, 1, 2, 3), op(api.Sub, 1, 1, 3, 2), op(api.Div, 1, 1, 3, 2), op(api.Jump, 1, 1, 1, 0), call(1, 1, 1, 2, 3)} {
		for local, want := range []int{2, 0, 5, 35, 500} {
			if local == 1 {
				continue
			}
			p := api.Program{Funcs: []api.Func{
				{Name: "f", File: "f", Params: 5, Locals: 5, Body: []api.Op{o, ret(2, local)}},
				{Name: "g", File: "f", Params: 2, Locals: 8, Body: []api.Op{op(api.Set, 3, 0, 1, 0), op(api.Set, 3, 2, 1, 0), op(api.Set, 3, 7, 1, 0), ret(4, 1)}},
			}}
			runs(t, p, []int{2, 4, 5, 35, 500}, 9, api.Done, want, "")
		}
	}
}

func TestP6Jump(t *testing.T) {
	// Back, to itself, onward; taken by every value but 0.
	back := one(1, 2, op(api.Set, 1, 1, 1, 0), op(api.Sub, 2, 0, 0, 1), op(api.Jump, 3, 0, 1, 0), ret(4, 0))
	runs(t, back, []int{3}, 6, api.Runs, 0, "f f 3")
	runs(t, back, []int{3}, 7, api.Runs, 0, "f f 4")
	runs(t, back, []int{3}, 8, api.Done, 0, "")
	itself := one(1, 1, op(api.Jump, 5, 0, 0, 0), ret(6, 0))
	runs(t, itself, []int{999}, 2000, api.Runs, 0, "f f 5")
	runs(t, itself, []int{0}, 1, api.Runs, 0, "f f 6")
	onward := one(1, 1, op(api.Jump, 1, 0, 2, 0), ret(2, 0), ret(3, 0))
	for _, v := range []int{1, 2, 500, 999} {
		runs(t, onward, []int{v}, 1, api.Runs, 0, "f f 3")
	}
	runs(t, onward, []int{0}, 1, api.Runs, 0, "f f 2")
}

func TestP6LocalsBeginWith0(t *testing.T) {
	for local := range 8 {
		p := one(2, 8, ret(1, local))
		want := 0
		if local < 2 {
			want = 11 + local
		}
		runs(t, p, []int{11, 12}, 1, api.Done, want, "")
	}
	// A frame finds nothing of what a frame before it left.
	p := api.Program{Funcs: []api.Func{
		{Name: "f", File: "f", Locals: 2, Body: []api.Op{op(api.Set, 1, 0, 7, 0), call(2, 1, 1, 0), call(3, 1, 1, 0), ret(4, 1)}},
		{Name: "g", File: "f", Params: 1, Locals: 2, Body: []api.Op{op(api.Add, 5, 1, 1, 0), ret(6, 1)}},
	}}
	runs(t, p, nil, 2000, api.Done, 7, "")
}

// Args go over in their order, each to the parameter of its place.
func TestP6Args(t *testing.T) {
	for k, want := range []int{30, 10, 10, 20, 0, 0} {
		p := api.Program{Funcs: []api.Func{
			{Name: "f", File: "f", Params: 3, Locals: 3, Body: []api.Op{call(1, 0, 1, 2, 0, 0, 1), ret(2, 0)}},
			{Name: "g", File: "f", Params: 4, Locals: 6, Body: []api.Op{ret(3, k)}},
		}}
		runs(t, p, []int{10, 20, 30}, 1, api.Runs, 0, "g f 3, f f 1")
		runs(t, p, []int{10, 20, 30}, 2, api.Runs, 0, "f f 2")
		runs(t, p, []int{10, 20, 30}, 3, api.Done, want, "")
	}
}

// What comes back goes to A of the Call, not to A of the Ret.
func TestP6GivenBack(t *testing.T) {
	for a := range 4 {
		p := api.Program{Funcs: []api.Func{
			{Name: "f", File: "f", Locals: 4, Body: []api.Op{call(1, a, 1), ret(2, a)}},
			{Name: "g", File: "f", Locals: 3, Body: []api.Op{op(api.Set, 3, 2, 55, 0), ret(4, 2)}},
		}}
		runs(t, p, nil, 4, api.Done, 55, "")
	}
}

// Function 0 can be called too: the run ends with its outermost frame alone.
func TestP6Function0IsCalled(t *testing.T) {
	runs(t, down(ret(40, 0)), []int{1}, 4, api.Runs, 0, "rec r 30, rec r 70")
	runs(t, down(ret(40, 0)), []int{1}, 6, api.Runs, 0, "rec r 80")
	runs(t, down(ret(40, 0)), []int{1}, 7, api.Done, 0, "")
}

func TestP6Deep(t *testing.T) {
	p := down(ret(40, 0))
	// Four steps for each Call: the one that is too many is the 20th.
	full := strings.Repeat("rec r 70, ", 19) + "rec r 70"
	runs(t, p, []int{20}, 79, api.Runs, 0, full)
	for _, n := range []int{80, 81, 2000} {
		runs(t, p, []int{20}, n, api.Deep, 0, full)
	}
	runs(t, p, []int{19}, 76, api.Runs, 0, "rec r 30, "+strings.Repeat("rec r 70, ", 18)+"rec r 70")
	runs(t, p, []int{19}, 2000, api.Done, 0, "")
	for depth := range 20 {
		runs(t, p, []int{depth}, 2000, api.Done, 0, "")
	}
}

func TestP6Zero(t *testing.T) {
	p := down(op(api.Div, 35, 1, 0, 1), ret(40, 0))
	for _, n := range []int{10, 11, 2000} {
		runs(t, p, []int{2}, n, api.Zero, 0, "rec r 35, rec r 70, rec r 70")
	}
	runs(t, p, []int{2}, 9, api.Runs, 0, "rec r 35, rec r 70, rec r 70")
}

// The most steps, counted by a program that never ends.
func TestP6MostSteps(t *testing.T) {
	p := one(0, 1, op(api.Set, 1, 0, 1, 0), op(api.Jump, 2, 0, 0, 0), ret(3, 0))
	runs(t, p, nil, 1999, api.Runs, 0, "f f 2")
	runs(t, p, nil, 2000, api.Runs, 0, "f f 1")
}

// What a code does not name may be anything, at a run too.
func TestP6NotNamed(t *testing.T) {
	p := one(0, 1, api.Op{Code: api.Set, Line: 1, B: 9, C: -1, Args: []int{-7}}, api.Op{Code: api.Jump, Line: 2, B: 2, C: most}, api.Op{Code: api.Ret, Line: 3, B: least, C: most, Args: []int{99}})
	runs(t, p, nil, 3, api.Done, 9, "")
	p = api.Program{Funcs: []api.Func{
		{Name: "f", File: "f", Locals: 1, Body: []api.Op{{Code: api.Call, Line: 1, B: 1, C: least}, ret(2, 0)}},
		{Name: "g", File: "g", Locals: 1, Body: rets(1)},
	}}
	runs(t, p, nil, 1, api.Runs, 0, "g g 1, f f 1")
	runs(t, p, nil, 3, api.Done, 0, "")
}

func TestP6Wrong(t *testing.T) {
	head, ops := wrongHead(), wrongOp()
	for _, c := range []struct {
		what string
		p    api.Program
		args []int
		n    int
		e    api.Errno
	}{
		{"no args", small(), nil, 1, api.ErrArg},
		{"too many args", small(), []int{1, 2}, 1, api.ErrArg},
		{"an arg too many", named(1), []int{0}, 1, api.ErrArg},
		{"an arg 1000", small(), []int{1000}, 1, api.ErrArg},
		{"an arg -1", small(), []int{-1}, 1, api.ErrArg},
		{"the greatest arg", small(), []int{most}, 1, api.ErrArg},
		{"the least arg", small(), []int{least}, 1, api.ErrArg},
		{"a later arg 1000", one(2, 2, ret(1, 0)), []int{1, 1000}, 1, api.ErrArg},
		{"n -1", small(), []int{1}, -1, api.ErrArg},
		{"n 2001", small(), []int{1}, 2001, api.ErrArg},
		{"the greatest n", small(), []int{1}, most, api.ErrArg},
		{"the least n", small(), []int{1}, least, api.ErrArg},
		{"no functions", api.Program{}, nil, 0, api.ErrFuncs},
		{"no functions, n -1", api.Program{}, nil, -1, api.ErrFuncs},
		{"13 functions", named(13), nil, 0, api.ErrFuncs},
		{"a head", head, []int{1}, 1, api.ErrHead},
		{"a head, no args, n -1", head, nil, -1, api.ErrHead},
		{"an op", ops, []int{1}, 0, api.ErrOp},
		{"an op, an arg 1000", ops, []int{1000}, 0, api.ErrOp},
	} {
		s, e := unfold.Run(c.p, c.args, c.n)
		if e != c.e || s.Status != 0 || s.Value != 0 || len(s.Frames) != 0 {
			t.Errorf("%s: Run = %+v, %d, want %d", c.what, s, e, c.e)
		}
	}
}

// teller runs a program as P6 says, each frame being a call of a Go function.
type teller struct {
	p      api.Program
	left   int
	status int
	frames []api.Frame // the outermost first
}

// halt is thrown where the frames are to stay as they are.
type halt struct{}

func (m *teller) frame(fn int, args []int) int {
	f := m.p.Funcs[fn]
	locals := append(slices.Clone(args), make([]int, f.Locals-len(args))...)
	m.frames = append(m.frames, api.Frame{Func: f.Name, File: f.File})
	mine := len(m.frames) - 1
	for at := 0; ; at++ {
		o := f.Body[at]
		m.frames[mine].Line = o.Line
		if m.left == 0 {
			panic(halt{})
		}
		m.left--
		switch o.Code {
		case api.Set:
			locals[o.A] = o.B
		case api.Add:
			locals[o.A] = (locals[o.B] + locals[o.C]) % 1000
		case api.Sub:
			d := locals[o.B] - locals[o.C]
			if d < 0 {
				d += 1000
			}
			locals[o.A] = d
		case api.Div:
			if locals[o.C] == 0 {
				m.status = api.Zero
				panic(halt{})
			}
			locals[o.A] = locals[o.B] / locals[o.C]
		case api.Jump:
			if locals[o.A] != 0 {
				at = o.B - 1
			}
		case api.Call:
			if len(m.frames) == 20 {
				m.status = api.Deep
				panic(halt{})
			}
			var given []int
			for _, a := range o.Args {
				given = append(given, locals[a])
			}
			locals[o.A] = m.frame(o.B, given)
		case api.Ret:
			m.frames = m.frames[:mine]
			return locals[o.A]
		}
	}
}

// toldRun says what P6 says of a program that Check lets pass.
func toldRun(p api.Program, args []int, n int) (s api.State) {
	m := &teller{p: p, left: n, status: api.Runs}
	defer func() {
		if x := recover(); x != nil && x != (halt{}) {
			panic(x)
		}
		s.Status = m.status
		slices.Reverse(m.frames)
		s.Frames = m.frames
	}()
	v := m.frame(0, args)
	m.status = api.Done
	return api.State{Value: v}
}

// drawnOp is one that may stand in the function with the number fn.
func drawnOp(r *rand.Rand, p api.Program, fn, ops int) api.Op {
	f := p.Funcs[fn]
	local := func() int { return r.Intn(f.Locals) }
	o := api.Op{Code: r.Intn(7), Line: 1 + r.Intn(9999), A: local(), B: local(), C: local()}
	switch {
	case o.Code == api.Ret && r.Intn(3) > 0:
		o.Code = api.Call
	case o.Code == api.Div && r.Intn(2) > 0:
		o.Code = api.Add
	}
	switch o.Code {
	case api.Set:
		o.B = r.Intn(1000)
		o.C = r.Intn(1000) - 500
	case api.Jump:
		o.B = r.Intn(ops)
	case api.Call:
		o.B = r.Intn(len(p.Funcs))
		// A call of a later function, so that many runs come to an end.
		if later := len(p.Funcs) - 1 - fn; later > 0 && r.Intn(5) > 0 {
			o.B = fn + 1 + r.Intn(later)
		}
		for range p.Funcs[o.B].Params {
			o.Args = append(o.Args, local())
		}
	case api.Ret:
		o.Args = []int{r.Intn(100)}
	}
	return o
}

// drawnProgram is one that Check lets pass.
func drawnProgram(r *rand.Rand) api.Program {
	p := named(1 + r.Intn(1+r.Intn(12)))
	for k := range p.Funcs {
		p.Funcs[k].File = string(rune('a' + r.Intn(4)))
		p.Funcs[k].Locals = 1 + r.Intn(8)
		p.Funcs[k].Params = r.Intn(p.Funcs[k].Locals + 1)
	}
	for k := range p.Funcs {
		ops := 1 + r.Intn(1+r.Intn(30))
		var body []api.Op
		for range ops - 1 {
			body = append(body, drawnOp(r, p, k, ops))
		}
		p.Funcs[k].Body = append(body, ret(1+r.Intn(9999), r.Intn(p.Funcs[k].Locals)))
	}
	return p
}

// drawnArgs are some that the program may be run with, if its Params may be.
func drawnArgs(r *rand.Rand, p api.Program) []int {
	var l []int
	for range min(p.Funcs[0].Params, api.MaxLocals) {
		l = append(l, r.Intn(1000)*r.Intn(2))
	}
	return l
}

func TestP6DrawnPrograms(t *testing.T) {
	r := rand.New(rand.NewSource(6))
	var seen [4]int
	for range 4000 {
		p := drawnProgram(r)
		if e, f, s := unfold.Check(p); e != api.OK || f != 0 || s != 0 {
			t.Fatalf("Check(%+v) = %d, %d, %d", p, e, f, s)
		}
		args := drawnArgs(r, p)
		for _, n := range []int{0, 1, 2, 3, 5, r.Intn(20), r.Intn(100), r.Intn(2001), 2000} {
			want := toldRun(p, args, n)
			got, e := unfold.Run(p, args, n)
			if e != api.OK || got.Status != want.Status || got.Value != want.Value || !slices.Equal(got.Frames, want.Frames) {
				t.Fatalf("Run(%+v, %v, %d) = %+v, %d, want %+v", p, args, n, got, e, want)
			}
			seen[want.Status]++
		}
	}
	for status, times := range seen {
		if times < 500 {
			t.Errorf("of the status %d there were %d runs", status, times)
		}
	}
}
