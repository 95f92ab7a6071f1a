// Package unfold: programs whose calls are inlined, and their call stacks: see DOC.md.
package unfold

import (
	"unfold/api"
	"unfold/code"
	"unfold/frame"
	"unfold/image"
	"unfold/machine"
	"unfold/number"
	"unfold/program"
	"unfold/run"
	"unfold/table"
)

// PutNumber writes a number (P3).
func PutNumber(n int) ([]byte, api.Errno) { return number.Put(n) }

// GetNumber reads the number that begins at a place, and tells the place behind it (P3).
func GetNumber(b []byte, at int) (int, int, api.Errno) { return number.Get(b, at) }

// PutTable writes a table (P4).
func PutTable(l []api.Span) ([]byte, api.Errno) { return table.Put(l) }

// GetTable reads the table that begins at a place, and tells the place behind it (P4).
func GetTable(b []byte, at int) ([]api.Span, int, api.Errno) { return table.Get(b, at) }

// At looks a pc up in a table (P4).
func At(l []api.Span, pc int) (int, api.Errno) { return table.At(l, pc) }

// Check tells whether a program is well-formed (P5).
func Check(p api.Program) (api.Errno, int, int) { return program.Check(p) }

// Run runs a program as it is written (P6).
func Run(p api.Program, args []int, n int) (api.State, api.Errno) {
	return run.Behind(p, args, n)
}

// Encode writes an image (P7).
func Encode(i api.Image) ([]byte, api.Errno) { return image.Encode(i) }

// Decode reads an image (P8).
func Decode(b []byte) (api.Image, api.Errno, int) { return image.Decode(b) }

// Symbolize tells the frames that some pcs of an image stand for (P9).
func Symbolize(b []byte, pcs []int) ([]api.Frame, api.Errno) { return image.Symbolize(b, pcs) }

// Print writes frames (P10).
func Print(l []api.Frame) (string, api.Errno) { return frame.Print(l) }

// Build makes the image of a program's code (P11).
func Build(p api.Program, budget int) ([]byte, api.Errno) { return code.Build(p, budget) }

// Machine is a run of a program's code.
type Machine struct {
	own machine.Machine
}

// New makes a machine (P12).
func New(p api.Program, budget int, args []int) (*Machine, api.Errno) {
	own, e := machine.New(p, budget, args)
	if e != api.OK {
		return nil, e
	}
	return &Machine{own: own}, api.OK
}

// Step takes steps, and tells how many (P12).
func (m *Machine) Step(n int) (int, api.Errno) { return m.own.Step(n) }

// State tells how the run stands, and the value that was given back (P12).
func (m *Machine) State() (int, int) { return m.own.State() }

// Pcs tells the pcs of the frames that are not inlined, the innermost first (P12).
func (m *Machine) Pcs() []int { return m.own.Pcs() }

// Trace runs a program and writes its frames (P13).
func Trace(p api.Program, budget int, args []int, n int) (string, api.Errno) {
	return machine.Trace(p, budget, args, n)
}
