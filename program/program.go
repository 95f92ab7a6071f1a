// Package program: which programs may be (P5).
package program

import (
	"unfold/api"
	"unfold/word"
)

// Check tells the first head or op of a program that may not be, and where it stands.
func Check(p api.Program) (api.Errno, int, int) {
	if len(p.Funcs) < 1 || len(p.Funcs) > api.MaxFuncs {
		return api.ErrFuncs, 0, 0
	}
	for k, f := range p.Funcs {
		if !headMayBe(f, p.Funcs[:k]) {
			return api.ErrHead, k, 0
		}
		for at, op := range f.Body {
			// A run that goes on from op to op must not come to the end of a body.
			last := at == len(f.Body)-1
			if last && op.Code != api.Ret || !opMayBe(f, op, p.Funcs) {
				return api.ErrOp, k, at
			}
		}
	}
	return api.OK, 0, 0
}

// Copy makes a program that has no memory in common with p.
func Copy(p api.Program) api.Program {
	var l []api.Func
	for _, f := range p.Funcs {
		f.Body = copyBody(f.Body)
		l = append(l, f)
	}
	return api.Program{Funcs: l}
}

// copyBody leaves out the Args of ops that are no Calls: they have no meaning,
// and may be a list of any length.
func copyBody(body []api.Op) []api.Op {
	var l []api.Op
	for _, op := range body {
		var args []int
		if op.Code == api.Call {
			args = append(args, op.Args...)
		}
		op.Args = args
		l = append(l, op)
	}
	return l
}

// IsValue tells whether a number is one that a local may have.
func IsValue(n int) bool {
	return n >= 0 && n < api.Mod
}

// headMayBe looks at the head of a function, behind those that stand before it.
func headMayBe(f api.Func, before []api.Func) bool {
	if !word.Is(f.Name) || !word.Is(f.File) || isNamed(f.Name, before) {
		return false
	}
	if f.Locals < 1 || f.Locals > api.MaxLocals {
		return false
	}
	if f.Params < 0 || f.Params > f.Locals {
		return false
	}
	return len(f.Body) >= 1 && len(f.Body) <= api.MaxBody
}

// isNamed tells whether one of some functions has a name.
func isNamed(name string, funcs []api.Func) bool {
	for _, f := range funcs {
		if f.Name == name {
			return true
		}
	}
	return false
}

// opMayBe looks at an op that stands in f: at what its code names, and at nothing else.
func opMayBe(f api.Func, op api.Op, funcs []api.Func) bool {
	// All seven codes name a local A.
	if op.Line < 1 || op.Line > api.MaxLine || !isLocal(f, op.A) {
		return false
	}
	switch op.Code {
	case api.Set:
		return IsValue(op.B)
	case api.Add, api.Sub, api.Div:
		return isLocal(f, op.B) && isLocal(f, op.C)
	case api.Jump:
		return op.B >= 0 && op.B < len(f.Body)
	case api.Call:
		return op.B >= 0 && op.B < len(funcs) && argsMayBe(f, op.Args, funcs[op.B].Params)
	case api.Ret:
		return true
	}
	return false
}

func isLocal(f api.Func, n int) bool {
	return n >= 0 && n < f.Locals
}

// argsMayBe looks at the Args of a Call that stands in f, of a function with some parameters.
func argsMayBe(f api.Func, args []int, params int) bool {
	if len(args) != params {
		return false
	}
	for _, a := range args {
		if !isLocal(f, a) {
			return false
		}
	}
	return true
}
