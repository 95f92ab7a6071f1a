// Package run: programs run as they are written (P6).
package run

import (
	"unfold/api"
	"unfold/program"
)

// Run is a run of a program. New makes it of a program that Check lets pass:
// so the function, the op and the locals that a step looks up are always there.
type Run struct {
	funcs         []api.Func
	frames        []frame // the outermost first
	status, value int
}

// frame is a function that is being run. Its locals are an array, so that no two
// frames have one in common.
type frame struct {
	fn, at int // the function's number; the op's that is the next, of a caller its Call's
	locals [api.MaxLocals]int
}

// Spot is where a frame is: at an op of a function, both by their numbers.
type Spot struct {
	Func, Op int
}

// Behind tells how the run of a program stands behind n steps.
func Behind(p api.Program, args []int, n int) (api.State, api.Errno) {
	r, e := New(p, args)
	if e != api.OK {
		return api.State{}, e
	}
	_, e = r.Step(n)
	if e != api.OK {
		return api.State{}, e
	}
	return r.State(), api.OK
}

// New begins a run. It keeps a copy of p, which the caller may change later.
func New(p api.Program, args []int) (Run, api.Errno) {
	e, _, _ := program.Check(p)
	if e != api.OK {
		return Run{}, e
	}
	if !argsMayBe(args, p.Funcs[0].Params) {
		return Run{}, api.ErrArg
	}
	var first frame
	for k, v := range args {
		first.locals[k] = v
	}
	own := program.Copy(p)
	return Run{funcs: own.Funcs, frames: []frame{first}}, api.OK
}

func argsMayBe(args []int, params int) bool {
	if len(args) != params {
		return false
	}
	for _, v := range args {
		if !program.IsValue(v) {
			return false
		}
	}
	return true
}

// Step takes n steps, or fewer if the run ends, and tells how many.
func (r *Run) Step(n int) (int, api.Errno) {
	if n < 0 || n > api.MaxSteps {
		return 0, api.ErrArg
	}
	taken := 0
	for taken < n && r.goesOn() {
		r.step()
		taken = taken + 1
	}
	return taken, api.OK
}

// goesOn tells whether there is a next op. A run that New did not make has none.
func (r *Run) goesOn() bool {
	return r.status == api.Runs && len(r.frames) > 0
}

// step takes the next op of the innermost frame.
func (r *Run) step() {
	top := len(r.frames) - 1
	f := r.frames[top]
	op := r.op(f)
	switch op.Code {
	case api.Jump:
		r.frames[top] = jump(f, op)
	case api.Call:
		r.call(f, op)
	case api.Ret:
		r.ret(f.locals[op.A])
	default:
		v, ok := result(f, op)
		if !ok {
			r.status = api.Zero
			return
		}
		r.frames[top] = goOn(f, op.A, v)
	}
}

// op tells at which op a frame is.
func (r *Run) op(f frame) api.Op {
	return r.funcs[f.fn].Body[f.at]
}

// goOn sets a local of a frame, and goes to the op that follows. There is one,
// since the last op of a body is a Ret.
func goOn(f frame, local, v int) frame {
	f.locals[local] = v
	f.at = f.at + 1
	return f
}

// result tells what a Set, Add, Sub or Div makes of a frame's locals; false, if
// it would divide by 0.
func result(f frame, op api.Op) (int, bool) {
	// A Set names one local alone: its B and C are not looked up.
	if op.Code == api.Set {
		return op.B, true
	}
	b := f.locals[op.B]
	c := f.locals[op.C]
	switch op.Code {
	case api.Add:
		return (b + c) % api.Mod, true
	case api.Sub:
		// Mod is added first: the remainder of a number below 0 would be below 0.
		return (b - c + api.Mod) % api.Mod, true
	}
	if c == 0 {
		return 0, false
	}
	return b / c, true
}

func jump(f frame, op api.Op) frame {
	f.at = f.at + 1
	if f.locals[op.A] != 0 {
		f.at = op.B
	}
	return f
}

func (r *Run) call(caller frame, op api.Op) {
	if len(r.frames) >= api.MaxDepth {
		r.status = api.Deep
		return
	}
	callee := frame{fn: op.B}
	for k, a := range op.Args {
		callee.locals[k] = caller.locals[a]
	}
	r.frames = append(r.frames, callee)
}

// ret takes the innermost frame away, and gives a value to the one that called it.
func (r *Run) ret(v int) {
	top := len(r.frames) - 1
	r.frames = r.frames[:top]
	if top == 0 {
		r.status = api.Done
		r.value = v
		return
	}
	caller := r.frames[top-1]
	call := r.op(caller)
	r.frames[top-1] = goOn(caller, call.A, v)
}

// State tells how the run stands.
func (r *Run) State() api.State {
	s := api.State{Status: r.status, Value: r.value}
	for k := len(r.frames) - 1; k >= 0; k-- {
		f := r.frames[k]
		fn := r.funcs[f.fn]
		op := r.op(f)
		s.Frames = append(s.Frames, api.Frame{Func: fn.Name, File: fn.File, Line: op.Line})
	}
	return s
}

// Spots tells where the frames are, the outermost first.
func (r *Run) Spots() []Spot {
	var l []Spot
	for _, f := range r.frames {
		l = append(l, Spot{Func: f.fn, Op: f.at})
	}
	return l
}
