package image

import (
	"unfold/api"
	"unfold/number"
	"unfold/table"
)

// reader goes through the bytes of an image, item by item: each is read first,
// and then taken. At the first that is wrong it stays, at the place at which that
// item begins.
type reader struct {
	b            []byte
	at, to       int // where the item begins that is the next; where it ends, if it was read
	e            api.Errno
	names, files []string // those that were read
	room         int      // how many pcs the functions to come may have
}

// Decode reads an image. Beside an error it tells the place of the item that is wrong.
func Decode(b []byte) (api.Image, api.Errno, int) {
	r := reader{b: b, room: api.MaxCode}
	r.head()
	n := r.number()
	r.take(countMayBe(n))
	var i api.Image
	for k := 0; k < n && r.e == api.OK; k++ {
		f := r.entry(n)
		i.Funcs = append(i.Funcs, f)
	}
	r.end()
	if r.e != api.OK {
		return api.Image{}, r.e, r.at
	}
	return i, api.OK, 0
}

// take goes on behind the item that was read, if it may stand there.
func (r *reader) take(mayBe bool) {
	if r.e != api.OK {
		return
	}
	if !mayBe {
		r.e = api.ErrImage
		return
	}
	r.at = r.to
}

func (r *reader) head() {
	for k, c := range head {
		if k >= len(r.b) {
			r.e = api.ErrShort
			return
		}
		if r.b[k] != c {
			r.e = api.ErrImage
			return
		}
	}
	r.at = len(head)
}

// end looks at what stands behind the last function.
func (r *reader) end() {
	if r.e == api.OK && r.at < len(r.b) {
		r.e = api.ErrImage
	}
}

// number reads a number; 0, if something was wrong.
func (r *reader) number() int {
	if r.e != api.OK {
		return 0
	}
	n, to, e := number.Get(r.b, r.at)
	r.to = to
	r.e = e
	return n
}

// table reads a table; nothing, if something was wrong.
func (r *reader) table() []api.Span {
	if r.e != api.OK {
		return nil
	}
	l, to, e := table.Get(r.b, r.at)
	r.to = to
	r.e = e
	return l
}

// bytes reads the bytes of a text; nothing, if something was wrong.
func (r *reader) bytes(size int) string {
	if r.e != api.OK {
		return ""
	}
	if size > len(r.b)-r.at {
		r.e = api.ErrShort
		return ""
	}
	r.to = r.at + size
	return string(r.b[r.at:r.to])
}

// text takes a text that is none of those that are taken.
func (r *reader) text(taken []string) string {
	size := r.number()
	r.take(size >= 1 && size <= api.MaxText)
	s := r.bytes(size)
	r.take(isNewWord(s, taken))
	return s
}

func (r *reader) file() string {
	n := r.number()
	r.take(n <= len(r.files))
	if n < len(r.files) {
		return r.files[n]
	}
	s := r.text(r.files)
	r.files = append(r.files, s)
	return s
}

// entry takes a function of an image that has some functions.
func (r *reader) entry(funcs int) api.Entry {
	name := r.text(r.names)
	r.names = append(r.names, name)
	file := r.file()
	lines := r.table()
	r.take(linesMayBe(lines, r.room))
	r.room = r.room - table.Pcs(lines)
	index := r.table()
	r.take(table.Pcs(index) == table.Pcs(lines))
	tree := r.tree(index, funcs)
	return api.Entry{Name: name, File: file, Lines: lines, Index: index, Tree: tree}
}

// tree takes the nodes of a function with an Index.
func (r *reader) tree(index []api.Span, funcs int) []api.Node {
	var l []api.Node
	instances := table.Values(index)
	last := nodes(index)
	before := beforeFirst
	for k := 1; k <= last && r.e == api.OK; k++ {
		fn := r.number()
		r.take(funcMayBe(fn, funcs))
		pc := r.number()
		r.take(pcMayBe(pc, before, k, instances))
		l = append(l, api.Node{Func: fn, Pc: pc})
		before = pc
	}
	return l
}
