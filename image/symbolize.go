package image

import (
	"unfold/api"
	"unfold/table"
)

// place is what stands at a pc of an image.
type place struct {
	fn, first      int // the function in whose code it is; the pc at which that code begins
	line, instance int
}

// Symbolize tells the frames that some pcs of an image stand for.
func Symbolize(b []byte, pcs []int) ([]api.Frame, api.Errno) {
	i, e, _ := Decode(b)
	if e != api.OK {
		return nil, e
	}
	places := placesOf(i)
	if !pcsMayBe(pcs, len(places)) {
		return nil, api.ErrPc
	}
	var l []api.Frame
	for k, pc := range pcs {
		l = append(l, framesAt(i, places, pc-shift(k))...)
	}
	return l, api.OK
}

// shift tells how far behind its place the pc with the number k is: all but the
// first tell where a call comes back to.
func shift(k int) int {
	if k == 0 {
		return 0
	}
	return 1
}

// pcsMayBe looks at pcs of an image that has n.
func pcsMayBe(pcs []int, n int) bool {
	if len(pcs) > api.MaxDepth {
		return false
	}
	for k, pc := range pcs {
		// The shift is added to the bounds: taken off the least int, it would overflow.
		if pc < shift(k) || pc >= n+shift(k) {
			return false
		}
	}
	return true
}

// placesOf lists what stands at each pc of a well-formed image.
func placesOf(i api.Image) []place {
	var l []place
	for fn, f := range i.Funcs {
		first := len(l)
		instances := table.Values(f.Index)
		for x, line := range table.Values(f.Lines) {
			l = append(l, place{fn: fn, first: first, line: line, instance: instances[x]})
		}
	}
	return l
}

// framesAt tells the frames that a pc of a well-formed image stands for. This
// ends, since the Call of an instance stands in one with a lower number.
func framesAt(i api.Image, places []place, pc int) []api.Frame {
	var l []api.Frame
	at := places[pc]
	own := i.Funcs[at.fn]
	for at.instance > 0 {
		n := own.Tree[at.instance-1]
		l = append(l, frameOf(i.Funcs[n.Func], at.line))
		at = places[at.first+n.Pc]
	}
	return append(l, frameOf(own, at.line))
}

func frameOf(f api.Entry, line int) api.Frame {
	return api.Frame{Func: f.Name, File: f.File, Line: line}
}
