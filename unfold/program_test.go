package unfold_test

import (
	"fmt"
	"regexp"
	"strings"
	"testing"

	"unfold/api"
	"unfold/unfold"
)

func op(code, line, a, b, c int) api.Op { return api.Op{Code: code, Line: line, A: a, B: b, C: c} }

func call(line, a, b int, args ...int) api.Op {
	return api.Op{Code: api.Call, Line: line, A: a, B: b, Args: args}
}

func ret(line, a int) api.Op { return api.Op{Code: api.Ret, Line: line, A: a} }

// small is the program of the document's examples.
func small() api.Program {
	return api.Program{Funcs: []api.Func{
		{Name: "main", File: "a", Params: 1, Locals: 2, Body: []api.Op{call(3, 1, 1, 0), ret(4, 1)}},
		{Name: "half", File: "b", Params: 1, Locals: 3, Body: []api.Op{op(api.Set, 7, 1, 2, 0), call(8, 2, 2, 0, 1), ret(9, 2)}},
		{Name: "div", File: "b", Params: 2, Locals: 2, Body: []api.Op{op(api.Div, 12, 0, 0, 1), ret(13, 0)}},
	}}
}

// wrongHead is the small program with a head that may not be.
func wrongHead() api.Program {
	p := small()
	p.Funcs[1].File = ""
	return p
}

// wrongOp is the small program with an op that may not be.
func wrongOp() api.Program {
	p := small()
	p.Funcs[2].Body[0].C = 2
	return p
}

// broad has every code, and a function with as many locals and ops as there may be.
func broad() api.Program {
	long := []api.Op{op(api.Add, 1, 7, 0, 6), op(api.Sub, 2, 0, 7, 7), op(api.Div, 3, 7, 7, 0), op(api.Jump, 4, 7, 29, 0), op(api.Set, 5, 0, 999, 0)}
	for len(long) < api.MaxBody-1 {
		long = append(long, call(6, 7, 2, 7, 0))
	}
	return api.Program{Funcs: []api.Func{
		{Name: "a", File: "x", Params: 0, Locals: 1, Body: []api.Op{call(9999, 0, 1, 0, 0, 0, 0, 0, 0, 0, 0), ret(1, 0)}},
		{Name: "b", File: "b", Params: 8, Locals: 8, Body: append(long, ret(7, 7))},
		{Name: "c", File: "x", Params: 2, Locals: 3, Body: []api.Op{op(api.Jump, 8, 2, 0, 0), call(8, 1, 0), ret(8, 0)}},
	}}
}

// one is a program of one function.
func one(params, locals int, body ...api.Op) api.Program {
	return api.Program{Funcs: []api.Func{{Name: "f", File: "f", Params: params, Locals: locals, Body: body}}}
}

func rets(n int) []api.Op {
	l := make([]api.Op, n)
	for k := range l {
		l[k] = ret(1, 0)
	}
	return l
}

// named is a program of n functions.
func named(n int) api.Program {
	var p api.Program
	for k := range n {
		p.Funcs = append(p.Funcs, api.Func{Name: fmt.Sprint("f", k), File: "f", Locals: 1, Body: rets(1)})
	}
	return p
}

var wordPattern = regexp.MustCompile(`^[a-z0-9./]{1,20}$`)

// toldCheck says what P5 says.
func toldCheck(p api.Program) (api.Errno, int, int) {
	within := func(n, from, to int) bool { return from <= n && n <= to }
	if !within(len(p.Funcs), 1, 12) {
		return api.ErrFuncs, 0, 0
	}
	names := map[string]bool{}
	for k, f := range p.Funcs {
		if !wordPattern.MatchString(f.Name) || !wordPattern.MatchString(f.File) || names[f.Name] || !within(f.Locals, 1, 8) || !within(f.Params, 0, f.Locals) || !within(len(f.Body), 1, 30) {
			return api.ErrHead, k, 0
		}
		names[f.Name] = true
		locals := func(l ...int) bool {
			for _, n := range l {
				if !within(n, 0, f.Locals-1) {
					return false
				}
			}
			return true
		}
		for at, o := range f.Body {
			fits := map[int]bool{
				api.Set:  locals(o.A) && within(o.B, 0, 999),
				api.Add:  locals(o.A, o.B, o.C),
				api.Sub:  locals(o.A, o.B, o.C),
				api.Div:  locals(o.A, o.B, o.C),
				api.Jump: locals(o.A) && within(o.B, 0, len(f.Body)-1),
				api.Call: locals(o.A) && within(o.B, 0, len(p.Funcs)-1) && len(o.Args) == p.Funcs[o.B].Params && locals(o.Args...),
				api.Ret:  locals(o.A),
			}
			if !fits[o.Code] || !within(o.Line, 1, 9999) || at+1 == len(f.Body) && o.Code != api.Ret {
				return api.ErrOp, k, at
			}
		}
	}
	return api.OK, 0, 0
}

// turned is the small program with something in it changed, and what Check tells of it.
type turned struct {
	what string
	turn func(l []api.Func)
	e    api.Errno
	f, s int
}

func checkTurned(t *testing.T, l []turned) {
	t.Helper()
	for _, c := range l {
		p := small()
		c.turn(p.Funcs)
		if e, f, s := unfold.Check(p); e != c.e || f != c.f || s != c.s {
			t.Errorf("Check (%s) = %d, %d, %d, want %d, %d, %d", c.what, e, f, s, c.e, c.f, c.s)
		}
	}
}

func TestP5Examples(t *testing.T) {
	checkTurned(t, []turned{
		{"the small program", func(l []api.Func) {}, api.OK, 0, 0},
		{"B 5 in the Call of main", func(l []api.Func) { l[0].Body[0].B = 5 }, api.ErrOp, 0, 0},
		{"half without its last op", func(l []api.Func) { l[1].Body = l[1].Body[:2] }, api.ErrOp, 1, 1},
		{"half named main", func(l []api.Func) { l[1].Name = "main" }, api.ErrHead, 1, 0},
	})
	if e, f, s := unfold.Check(broad()); e != api.OK || f != 0 || s != 0 {
		t.Errorf("Check of a broad program = %d, %d, %d", e, f, s)
	}
}

func TestP5Funcs(t *testing.T) {
	for n := range 40 {
		want := api.OK
		if n < 1 || n > 12 {
			want = api.ErrFuncs
		}
		if e, f, s := unfold.Check(named(n)); e != want || f != 0 || s != 0 {
			t.Errorf("Check of %d functions = %d, %d, %d, want %d", n, e, f, s, want)
		}
	}
	// Too many functions are told ahead of what is wrong in them.
	if e, f, s := unfold.Check(api.Program{Funcs: make([]api.Func, 13)}); e != api.ErrFuncs || f != 0 || s != 0 {
		t.Errorf("Check of 13 empty functions = %d, %d, %d", e, f, s)
	}
}

func TestP5Heads(t *testing.T) {
	for _, c := range []struct {
		what string
		turn func(f *api.Func)
		e    api.Errno
	}{
		{"no name", func(f *api.Func) { f.Name = "" }, api.ErrHead},
		{"a name of 20", func(f *api.Func) { f.Name = strings.Repeat("z", 20) }, api.OK},
		{"a name of 21", func(f *api.Func) { f.Name = strings.Repeat("z", 21) }, api.ErrHead},
		{"a name with all marks", func(f *api.Func) { f.Name = "./09az" }, api.OK},
		{"a name with a capital", func(f *api.Func) { f.Name = "diV" }, api.ErrHead},
		{"a name with a letter of two bytes", func(f *api.Func) { f.Name = "dïv" }, api.ErrHead},
		{"a name with a byte 10", func(f *api.Func) { f.Name = "div\n" }, api.ErrHead},
		{"a name with a byte 0", func(f *api.Func) { f.Name = "div\x00" }, api.ErrHead},
		{"the name of the first function", func(f *api.Func) { f.Name = "main" }, api.ErrHead},
		{"the name of the function before", func(f *api.Func) { f.Name = "half" }, api.ErrHead},
		{"the name of a file", func(f *api.Func) { f.Name = "a" }, api.OK},
		{"a name that begins like another", func(f *api.Func) { f.Name = "mai" }, api.OK},
		{"no file", func(f *api.Func) { f.File = "" }, api.ErrHead},
		{"a file of 20", func(f *api.Func) { f.File = strings.Repeat(".", 20) }, api.OK},
		{"a file of 21", func(f *api.Func) { f.File = strings.Repeat(".", 21) }, api.ErrHead},
		{"a file with a colon", func(f *api.Func) { f.File = "b:1" }, api.ErrHead},
		{"the file named like a function", func(f *api.Func) { f.File = "main" }, api.OK},
		{"the file named like this function", func(f *api.Func) { f.File = "div" }, api.OK},
		{"no locals", func(f *api.Func) { f.Locals = 0 }, api.ErrHead},
		{"locals below 0", func(f *api.Func) { f.Locals = least }, api.ErrHead},
		{"as many locals as parameters", func(f *api.Func) { f.Locals = 2 }, api.OK},
		{"fewer locals than parameters", func(f *api.Func) { f.Locals = 1 }, api.ErrHead},
		{"8 locals", func(f *api.Func) { f.Locals = 8 }, api.OK},
		{"9 locals", func(f *api.Func) { f.Locals = 9 }, api.ErrHead},
		{"the most locals", func(f *api.Func) { f.Locals = most }, api.ErrHead},
		{"no body", func(f *api.Func) { f.Body = nil }, api.ErrHead},
		{"an empty body", func(f *api.Func) { f.Body = []api.Op{} }, api.ErrHead},
		{"1 op", func(f *api.Func) { f.Body = rets(1) }, api.OK},
		{"30 ops", func(f *api.Func) { f.Body = rets(30) }, api.OK},
		{"31 ops", func(f *api.Func) { f.Body = rets(31) }, api.ErrHead},
		{"many ops", func(f *api.Func) { f.Body = rets(1 << 20) }, api.ErrHead},
	} {
		p := small()
		c.turn(&p.Funcs[2])
		f := 0
		if c.e != api.OK {
			f = 2
		}
		if e, gotF, s := unfold.Check(p); e != c.e || gotF != f || s != 0 {
			t.Errorf("Check (%s) = %d, %d, %d, want %d, %d, 0", c.what, e, gotF, s, c.e, f)
		}
	}
}

// Params are those of the last function, which nothing before it calls here.
func TestP5Params(t *testing.T) {
	for _, n := range numbers {
		p := named(3)
		p.Funcs[2].Locals = 2
		p.Funcs[2].Params = n
		want, f := api.OK, 0
		if n < 0 || n > 2 {
			want, f = api.ErrHead, 2
		}
		if e, gotF, s := unfold.Check(p); e != want || gotF != f || s != 0 {
			t.Errorf("Check with Params %d = %d, %d, %d, want %d", n, e, gotF, s, want)
		}
	}
}

// The op that is tried stands as op 1 of function 1, with 3 locals and 4 ops.
func TestP5Ops(t *testing.T) {
	for _, c := range []struct {
		what string
		o    api.Op
		e    api.Errno
	}{
		{"line 1", ret(1, 0), api.OK}, {"line 0", ret(0, 0), api.ErrOp}, {"line -1", ret(-1, 0), api.ErrOp},
		{"line 9999", ret(9999, 0), api.OK}, {"line 10000", ret(10000, 0), api.ErrOp}, {"the greatest line", ret(most, 0), api.ErrOp},
		{"code -1", op(-1, 1, 0, 0, 0), api.ErrOp}, {"code 7", op(7, 1, 0, 0, 0), api.ErrOp}, {"the greatest code", op(most, 1, 0, 0, 0), api.ErrOp},
		{"Set", op(api.Set, 1, 2, 999, -1), api.OK}, {"Set of no local", op(api.Set, 1, 3, 0, 0), api.ErrOp}, {"Set of a local below 0", op(api.Set, 1, -1, 0, 0), api.ErrOp},
		{"Set to 1000", op(api.Set, 1, 0, 1000, 0), api.ErrOp}, {"Set to -1", op(api.Set, 1, 0, -1, 0), api.ErrOp},
		{"Add", op(api.Add, 1, 2, 2, 2), api.OK}, {"Add to no local", op(api.Add, 1, 3, 0, 0), api.ErrOp}, {"Add of no local B", op(api.Add, 1, 0, 3, 0), api.ErrOp}, {"Add of no local C", op(api.Add, 1, 0, 0, 3), api.ErrOp},
		{"Sub", op(api.Sub, 1, 2, 2, 2), api.OK}, {"Sub to no local", op(api.Sub, 1, -1, 0, 0), api.ErrOp}, {"Sub of no local B", op(api.Sub, 1, 0, -1, 0), api.ErrOp}, {"Sub of no local C", op(api.Sub, 1, 0, 0, -1), api.ErrOp},
		{"Div", op(api.Div, 1, 2, 2, 2), api.OK}, {"Div to no local", op(api.Div, 1, most, 0, 0), api.ErrOp}, {"Div of no local B", op(api.Div, 1, 0, least, 0), api.ErrOp}, {"Div of no local C", op(api.Div, 1, 0, 0, most), api.ErrOp},
		{"Jump to the first", op(api.Jump, 1, 2, 0, most), api.OK}, {"Jump to the last", op(api.Jump, 1, 2, 3, -1), api.OK},
		{"Jump behind the last", op(api.Jump, 1, 2, 4, 0), api.ErrOp}, {"Jump to -1", op(api.Jump, 1, 2, -1, 0), api.ErrOp}, {"Jump by no local", op(api.Jump, 1, 3, 0, 0), api.ErrOp},
		{"Call", call(1, 2, 2, 2, 0), api.OK}, {"Call of itself", call(1, 2, 1, 2), api.OK}, {"Call of the first", call(1, 2, 0), api.OK},
		{"Call with one local twice", call(1, 2, 2, 1, 1), api.OK},
		{"Call of function 3", call(1, 2, 3), api.ErrOp}, {"Call of function -1", call(1, 2, -1), api.ErrOp}, {"Call of the greatest function", call(1, 2, most), api.ErrOp},
		{"Call for no local", call(1, 3, 2, 0, 0), api.ErrOp}, {"Call for a local below 0", call(1, -1, 2, 0, 0), api.ErrOp},
		{"Call with too few Args", call(1, 2, 2, 0), api.ErrOp}, {"Call with no Args", call(1, 2, 2), api.ErrOp}, {"Call with too many Args", call(1, 2, 2, 0, 0, 0), api.ErrOp}, {"Call with an Arg where there is none", call(1, 2, 0, 0), api.ErrOp},
		{"Call with no local in front", call(1, 2, 2, 3, 0), api.ErrOp}, {"Call with no local behind", call(1, 2, 2, 0, -1), api.ErrOp},
		{"Call with any C", api.Op{Code: api.Call, Line: 1, C: least}, api.OK},
		{"Ret", ret(1, 2), api.OK}, {"Ret of no local", ret(1, 3), api.ErrOp}, {"Ret of a local below 0", ret(1, -1), api.ErrOp},
		{"Ret with anything", api.Op{Code: api.Ret, Line: 1, B: least, C: most, Args: []int{-1, 99}}, api.OK},
		{"Set with any Args", api.Op{Code: api.Set, Line: 1, Args: []int{-1, 99}}, api.OK},
	} {
		p := api.Program{Funcs: []api.Func{
			{Name: "a", File: "a", Params: 0, Locals: 8, Body: rets(1)},
			{Name: "b", File: "a", Params: 1, Locals: 3, Body: rets(4)},
			{Name: "c", File: "a", Params: 2, Locals: 8, Body: rets(30)},
		}}
		p.Funcs[1].Body[1] = c.o
		f, s := 0, 0
		if c.e != api.OK {
			f, s = 1, 1
		}
		if e, gotF, gotS := unfold.Check(p); e != c.e || gotF != f || gotS != s {
			t.Errorf("Check (%s) = %d, %d, %d, want %d, %d, %d", c.what, e, gotF, gotS, c.e, f, s)
		}
	}
}

func TestP5LastOp(t *testing.T) {
	for _, last := range []api.Op{op(api.Set, 1, 0, 0, 0), op(api.Add, 1, 0, 0, 0), op(api.Sub, 1, 0, 0, 0), op(api.Div, 1, 0, 0, 0), op(api.Jump, 1, 0, 0, 0), call(1, 0, 0), op(9, 1, 0, 0, 0)} {
		for _, n := range []int{0, 1, 29} {
			p := one(0, 1, append(rets(n), last)...)
			if e, f, s := unfold.Check(p); e != api.ErrOp || f != 0 || s != n {
				t.Errorf("Check of %d Rets and a code %d = %d, %d, %d", n, last.Code, e, f, s)
			}
		}
	}
}

func TestP5TheFirstIsTold(t *testing.T) {
	checkTurned(t, []turned{
		{"a head ahead of its ops", func(l []api.Func) { l[1].Body[0].Line = 0; l[1].File = "" }, api.ErrHead, 1, 0},
		{"an op ahead of a later head", func(l []api.Func) { l[1].Body[2].Line = 0; l[2].File = "" }, api.ErrOp, 1, 2},
		{"an op ahead of a later op", func(l []api.Func) { l[1].Body[1].Line = 0; l[1].Body[2].Line = 0 }, api.ErrOp, 1, 1},
		{"an op ahead of the missing Ret", func(l []api.Func) { l[1].Body = l[1].Body[:2]; l[1].Body[0].Line = 0 }, api.ErrOp, 1, 0},
		{"the later of two functions with one name", func(l []api.Func) { l[0].Name = "div" }, api.ErrHead, 2, 0},
		{"a Call of a function whose Params may not be", func(l []api.Func) { l[2].Params = -1; l[1].Body[1].Args = nil }, api.ErrOp, 1, 1},
		{"a Call that fits Params which may not be", func(l []api.Func) { l[2].Params = 9; l[1].Body[1].Args = make([]int, 9) }, api.ErrHead, 2, 0},
		{"a Call of a function whose file may not be", func(l []api.Func) { l[2].File = "" }, api.ErrHead, 2, 0},
	})
}

// fields are all numbers of a program, one by one.
func fields(p api.Program) []*int {
	var l []*int
	for k := range p.Funcs {
		f := &p.Funcs[k]
		l = append(l, &f.Params, &f.Locals)
		for at := range f.Body {
			o := &f.Body[at]
			l = append(l, &o.Code, &o.Line, &o.A, &o.B, &o.C)
			for n := range o.Args {
				l = append(l, &o.Args[n])
			}
		}
	}
	return l
}

// Each number of some programs becomes each of some numbers.
func TestP5EveryField(t *testing.T) {
	edges := append([]int{3, 4, 6, 7, 8, 9, 12, 13, 28, 29, 30, 31}, numbers...)
	for _, whole := range []func() api.Program{small, broad, halves} {
		p := whole()
		for k, field := range fields(p) {
			was := *field
			for _, n := range edges {
				*field = n
				e, f, s := unfold.Check(p)
				if wantE, wantF, wantS := toldCheck(p); e != wantE || f != wantF || s != wantS {
					t.Errorf("number %d of %+v is %d: Check = %d, %d, %d, want %d, %d, %d", k, whole(), n, e, f, s, wantE, wantF, wantS)
				}
			}
			*field = was
		}
	}
}
