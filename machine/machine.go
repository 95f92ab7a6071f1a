// Package machine: runs of a program's code, and what is told of them (P12, P13).
package machine

import (
	"unfold/api"
	"unfold/code"
	"unfold/frame"
	"unfold/run"
)

// Machine is a run of a program's code. It runs the program as it is written:
// where in the code its frames are follows from the Calls that they came by.
type Machine struct {
	run   run.Run
	codes []code.Code
}

// New makes a machine.
func New(p api.Program, budget int, args []int) (Machine, api.Errno) {
	// The run comes first: what is wrong with args is told ahead of the size.
	r, e := run.New(p, args)
	if e != api.OK {
		return Machine{}, e
	}
	codes, e := code.Lay(p, budget)
	if e != api.OK {
		return Machine{}, e
	}
	return Machine{run: r, codes: codes}, api.OK
}

// Step takes n steps, or fewer if the run ends, and tells how many.
func (m *Machine) Step(n int) (int, api.Errno) {
	return m.run.Step(n)
}

// State tells how the run stands, and the value that was given back.
func (m *Machine) State() (int, int) {
	s := m.run.State()
	return s.Status, s.Value
}

// Pcs tells the pcs of the physical frames, the innermost first.
func (m *Machine) Pcs() []int {
	var l []int
	var c code.Code // that of the physical frame
	instance := 0   // in which the next frame is: in 0 all physical ones are
	spots := m.run.Spots()
	for k, s := range spots {
		if instance == 0 {
			c = m.codes[s.Func]
		}
		pc := c.PlaceOf(instance, s.Op)
		if k == len(spots)-1 {
			l = append(l, c.First+pc)
			break
		}
		instance = c.BegunAt(pc)
		if instance == 0 {
			l = append(l, c.First+pc+1)
		}
	}
	return reversed(l)
}

func reversed(l []int) []int {
	var r []int
	for k := len(l) - 1; k >= 0; k-- {
		r = append(r, l[k])
	}
	return r
}

// Trace writes the frames of a run behind n steps.
func Trace(p api.Program, budget int, args []int, n int) (string, api.Errno) {
	s, e := run.Behind(p, args, n)
	if e != api.OK {
		return "", e
	}
	// The frames do not hang on the code, but there must be one.
	_, e = code.Lay(p, budget)
	if e != api.OK {
		return "", e
	}
	return frame.Print(s.Frames)
}
