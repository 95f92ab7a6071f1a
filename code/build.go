package code

import (
	"unfold/api"
	"unfold/image"
	"unfold/table"
)

// Build makes the bytes of the image of a program's code.
func Build(p api.Program, budget int) ([]byte, api.Errno) {
	l, e := Lay(p, budget)
	if e != api.OK {
		return nil, e
	}
	var i api.Image
	for k, c := range l {
		i.Funcs = append(i.Funcs, entryOf(c, p.Funcs[k], p.Funcs))
	}
	return image.Encode(i)
}

// entryOf tells of the code of f what an image does.
func entryOf(c Code, f api.Func, funcs []api.Func) api.Entry {
	var lines, instances []int
	for _, p := range c.Places {
		lines = append(lines, funcs[p.Func].Body[p.Op].Line)
		instances = append(instances, p.Instance)
	}
	return api.Entry{Name: f.Name, File: f.File, Lines: table.Of(lines), Index: table.Of(instances), Tree: c.Tree}
}
