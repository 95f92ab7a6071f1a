// Package code: the code of functions, with calls inlined, and its image (P11).
package code

import (
	"unfold/api"
	"unfold/program"
)

// Code is the code of a function.
type Code struct {
	First  int // the pc of its first place, in the image of the program
	Places []Place
	Tree   []api.Node // its instances from 1 on
}

// Place is what stands at a place: an op of a function's body, in an instance.
type Place struct {
	Func, Op, Instance int
}

// writer lays the places of one code behind the other.
type writer struct {
	funcs  []api.Func
	budget int
	room   int // how many places there may still be; below 0, if there are too many
	own    Code
}

// Lay makes the codes of a program's functions, in their order.
func Lay(p api.Program, budget int) ([]Code, api.Errno) {
	e, _, _ := program.Check(p)
	if e != api.OK {
		return nil, e
	}
	if budget < 0 || budget > api.MaxBody {
		return nil, api.ErrArg
	}
	w := writer{funcs: p.Funcs, budget: budget, room: api.MaxCode}
	var l []Code
	for fn := range p.Funcs {
		w.own = Code{First: api.MaxCode - w.room}
		w.instance(fn, [api.MaxFuncs]bool{})
		if w.room < 0 {
			return nil, api.ErrSize
		}
		l = append(l, w.own)
	}
	return l, api.OK
}

// instance lays the body of a function as the newest instance, and within it the
// instances that begin there; around has the functions of those around it. This
// ends, since no function is around itself.
func (w *writer) instance(fn int, around [api.MaxFuncs]bool) {
	k := len(w.own.Tree)
	around[fn] = true
	for at, op := range w.funcs[fn].Body {
		// Calls in Calls can make far more places than could ever be laid.
		w.room = w.room - 1
		if w.room < 0 {
			return
		}
		pc := len(w.own.Places)
		w.own.Places = append(w.own.Places, Place{Func: fn, Op: at, Instance: k})
		if w.isInlined(op, around) {
			w.own.Tree = append(w.own.Tree, api.Node{Func: op.B, Pc: pc})
			w.instance(op.B, around)
		}
	}
}

// isInlined looks at an op in an instance; around has its function too.
func (w *writer) isInlined(op api.Op, around [api.MaxFuncs]bool) bool {
	if op.Code != api.Call || around[op.B] {
		return false
	}
	return len(w.funcs[op.B].Body) <= w.budget
}

// PlaceOf tells where an op of an instance stands; if it does not, the place
// behind the code.
func (c Code) PlaceOf(instance, op int) int {
	for pc, p := range c.Places {
		if p.Instance == instance && p.Op == op {
			return pc
		}
	}
	return len(c.Places)
}

// BegunAt tells the instance that begins with the Call at a place; 0, if none does.
func (c Code) BegunAt(pc int) int {
	for k, n := range c.Tree {
		if n.Pc == pc {
			return k + 1
		}
	}
	return 0
}
