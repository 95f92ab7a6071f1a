package unfold_test

import (
	"bytes"
	"fmt"
	"math/rand"
	"slices"
	"strings"
	"testing"

	"unfold/api"
	"unfold/unfold"
)

// smallImage is that of the small program, by the budget 2.
func smallImage() api.Image {
	return api.Image{Funcs: []api.Entry{
		{Name: "main", File: "a", Lines: spans(3, 1, 4, 1), Index: spans(0, 2)},
		{Name: "half", File: "b", Lines: spans(7, 1, 8, 1, 12, 1, 13, 1, 9, 1), Index: spans(0, 2, 1, 2, 0, 1), Tree: nodes(2, 1)},
		{Name: "div", File: "b", Lines: spans(12, 1, 13, 1), Index: spans(0, 2)},
	}}
}

// smallBytes are those that the document tells of the small image.
func smallBytes() []byte {
	b := []byte{85, 70, 1, 3}
	b = append(append(b, 4), "main"...)
	b = append(append(b, 0, 1), "a"...)
	b = append(b, 8, 1, 2, 1, 0, 2, 2, 0)
	b = append(append(b, 4), "half"...)
	b = append(append(b, 1, 1), "b"...)
	b = append(b, 16, 1, 2, 1, 8, 1, 2, 1, 7, 1, 0, 2, 2, 2, 2, 1, 1, 0, 2, 1)
	b = append(append(b, 3), "div"...)
	return append(b, 1, 26, 1, 2, 1, 0, 2, 2, 0)
}

// nodes makes a Tree out of Func, Pc, Func, Pc and so on.
func nodes(numbers ...int) []api.Node {
	var l []api.Node
	for k := 0; k+1 < len(numbers); k += 2 {
		l = append(l, api.Node{Func: numbers[k], Pc: numbers[k+1]})
	}
	return l
}

// folded is the table that has a Value at each pc.
func folded(values ...int) []api.Span {
	var l []api.Span
	for k, v := range values {
		if k > 0 && v == values[k-1] {
			l[len(l)-1].Len++
			continue
		}
		l = append(l, api.Span{Value: v, Len: 1})
	}
	return l
}

// single is an image of one function, with some instances at its places.
func single(instances []int, tree []api.Node) api.Image {
	return api.Image{Funcs: []api.Entry{{Name: "f", File: "f", Lines: spans(1, max(1, len(instances))), Index: folded(instances...), Tree: tree}}}
}

// ladder is an image with an instance in an instance in an instance, as deep as can be.
func ladder() api.Image {
	var instances []int
	var tree []api.Node
	for k := range api.MaxCode {
		instances = append(instances, k)
		if k > 0 {
			tree = append(tree, api.Node{Func: 0, Pc: k - 1})
		}
	}
	return single(instances, tree)
}

// evenly is an image of n functions that have some pcs each.
func evenly(n, pcs int) api.Image {
	var i api.Image
	for k := range n {
		i.Funcs = append(i.Funcs, api.Entry{Name: fmt.Sprint("f", k), File: fmt.Sprint("f", k), Lines: spans(k+1, pcs), Index: spans(0, pcs)})
	}
	return i
}

// sameImage takes a nil list for an empty one.
func sameImage(a, b api.Image) bool {
	return slices.EqualFunc(a.Funcs, b.Funcs, func(x, y api.Entry) bool {
		return x.Name == y.Name && x.File == y.File && slices.Equal(x.Lines, y.Lines) && slices.Equal(x.Index, y.Index) && slices.Equal(x.Tree, y.Tree)
	})
}

// copied is an image that has no list in common with i.
func copied(i api.Image) api.Image {
	l := slices.Clone(i.Funcs)
	for k, f := range l {
		l[k].Lines, l[k].Index, l[k].Tree = slices.Clone(f.Lines), slices.Clone(f.Index), slices.Clone(f.Tree)
	}
	return api.Image{Funcs: l}
}

// toldImage says whether P7 calls an image well-formed, pc by pc.
func toldImage(i api.Image) bool {
	names := map[string]bool{}
	all := 0
	for _, f := range i.Funcs {
		_, wrongLines := unfold.PutTable(f.Lines)
		_, wrongIndex := unfold.PutTable(f.Index)
		if wrongLines != api.OK || wrongIndex != api.OK || names[f.Name] || !wordPattern.MatchString(f.Name) || !wordPattern.MatchString(f.File) {
			return false
		}
		names[f.Name] = true
		greatest, pcs := 0, 0
		for ; ; pcs++ {
			line, e1 := unfold.At(f.Lines, pcs)
			instance, e2 := unfold.At(f.Index, pcs)
			if e1 != e2 || e1 == api.OK && line == 0 {
				return false
			}
			if e1 != api.OK {
				break
			}
			greatest = max(greatest, instance)
		}
		all += pcs
		if len(f.Tree) != greatest {
			return false
		}
		for k, n := range f.Tree {
			around, e1 := unfold.At(f.Index, n.Pc)
			if e1 != api.OK || around > k || k > 0 && n.Pc <= f.Tree[k-1].Pc || n.Func < 0 || n.Func >= len(i.Funcs) {
				return false
			}
			if begun, e2 := unfold.At(f.Index, n.Pc+1); e2 != api.OK || begun != k+1 {
				return false
			}
		}
	}
	return len(names) >= 1 && len(names) <= 12 && all <= 1000
}

// toldImageBytes writes an image as P7 says, whether it is well-formed or not, as
// long as its tables are and no number is below 0.
func toldImageBytes(i api.Image) []byte {
	number := func(n int) string {
		b, e := unfold.PutNumber(n)
		if e != api.OK {
			panic(n)
		}
		return string(b)
	}
	table := func(l []api.Span) string {
		b, e := unfold.PutTable(l)
		if e != api.OK {
			panic(l)
		}
		return string(b)
	}
	text := func(s string) string { return number(len(s)) + s }
	files := map[string]int{}
	s := "\x55\x46\x01" + number(len(i.Funcs))
	for _, f := range i.Funcs {
		s += text(f.Name)
		if n, old := files[f.File]; old {
			s += number(n)
		} else {
			s += number(len(files)) + text(f.File)
			files[f.File] = len(files)
		}
		s += table(f.Lines) + table(f.Index)
		for _, n := range f.Tree {
			s += number(n.Func) + number(n.Pc)
		}
	}
	return []byte(s)
}

// isImage fails if an image is not written as it should, or not read back.
func isImage(t *testing.T, what string, i api.Image) {
	t.Helper()
	want := toldImageBytes(i)
	if b, e := unfold.Encode(i); e != api.OK || !bytes.Equal(b, want) {
		t.Errorf("%s: Encode = %v, %d, want %v", what, b, e, want)
	}
	if got, e, at := unfold.Decode(want); e != api.OK || at != 0 || !sameImage(got, i) {
		t.Errorf("%s: Decode(%v) = %+v, %d, %d, want %+v", what, want, got, e, at, i)
	}
}

// isNoImage fails if an image is written that is not well-formed.
func isNoImage(t *testing.T, what string, i api.Image) {
	t.Helper()
	if b, e := unfold.Encode(i); e != api.ErrImage || len(b) != 0 {
		t.Errorf("%s: Encode = %v, %d, want ErrImage", what, b, e)
	}
}

func TestP7Example(t *testing.T) {
	if b, e := unfold.Encode(smallImage()); e != api.OK || !bytes.Equal(b, smallBytes()) {
		t.Errorf("Encode of the small image = %v, %d, want %v", b, e, smallBytes())
	}
	isImage(t, "the small image", smallImage())
}

// The files of an image are numbered in the order in which they come.
func TestP7Files(t *testing.T) {
	i := evenly(7, 1)
	for k, file := range []string{"x", "y", "x", "f2", "y", "f2", "x"} {
		i.Funcs[k].File = file
	}
	want := []byte("\x55\x46\x01\x07")
	for k, file := range []string{"\x00\x01x", "\x01\x01y", "\x00", "\x02\x02f2", "\x01", "\x02", "\x00"} {
		want = append(want, 2, 'f', byte('0'+k))
		want = append(append(want, file...), byte(2*k+4), 1, 0, 2, 1, 0)
	}
	if b, e := unfold.Encode(i); e != api.OK || !bytes.Equal(b, want) {
		t.Errorf("Encode = %v, %d, want %v", b, e, want)
	}
	isImage(t, "files", i)
	// A file may have the name of a function, and of its own.
	i.Funcs[3].File = i.Funcs[0].Name
	isImage(t, "a file named as a function", i)
}

func TestP7Edges(t *testing.T) {
	for n := 1; n <= 12; n++ {
		isImage(t, fmt.Sprint(n, " functions"), evenly(n, 1+n%3))
	}
	isImage(t, "1000 pcs of one function", evenly(1, 1000))
	isImage(t, "1000 pcs of ten functions", evenly(10, 100))
	isImage(t, "999 nodes", ladder())
	isImage(t, "the last pcs", single([]int{0, 0, 1}, nodes(0, 1)))
	isImage(t, "the first pcs", single([]int{0, 1}, nodes(0, 0)))
	isImage(t, "an instance in itself alone", single([]int{1, 0, 1}, nodes(0, 1)))
	isImage(t, "a Call in an instance that is not around", single([]int{0, 1, 0, 2, 1, 3}, nodes(0, 0, 0, 2, 0, 4)))
	isImage(t, "an instance that stands twice", single([]int{0, 1, 0, 1, 2}, nodes(0, 2, 0, 3)))
	isImage(t, "an instance ahead of its Call", single([]int{2, 0, 1, 2}, nodes(0, 1, 0, 2)))

	i := smallImage()
	i.Funcs[0].Name, i.Funcs[1].File = strings.Repeat("z", 20), strings.Repeat("/", 20)
	i.Funcs[1].Name, i.Funcs[0].File = ".", "0"
	i.Funcs[1].Lines[0].Value, i.Funcs[1].Lines[1].Value = 9999, 1
	isImage(t, "texts and lines", i)
	for fn := range 3 {
		i.Funcs[1].Tree[0].Func = fn
		isImage(t, fmt.Sprint("a node of function ", fn), i)
	}
}

func TestP7Wrong(t *testing.T) {
	isNoImage(t, "no functions", api.Image{})
	isNoImage(t, "13 functions", evenly(13, 1))
	isNoImage(t, "1001 pcs of eleven functions", evenly(11, 91))
	isNoImage(t, "1001 pcs of one function", evenly(1, 1001))
	isNoImage(t, "1000 pcs of each function", evenly(12, 1000))
	for _, c := range []struct {
		what string
		turn func(main, half, div *api.Entry)
	}{
		{"no name", func(main, half, div *api.Entry) { main.Name = "" }},
		{"a name of 21 bytes", func(main, half, div *api.Entry) { div.Name = strings.Repeat("a", 21) }},
		{"a name that is no word", func(main, half, div *api.Entry) { div.Name = "Div" }},
		{"the name of the one before", func(main, half, div *api.Entry) { div.Name = half.Name }},
		{"the name of the first", func(main, half, div *api.Entry) { div.Name = main.Name }},
		{"no file", func(main, half, div *api.Entry) { main.File = "" }},
		{"a file of 21 bytes", func(main, half, div *api.Entry) { div.File = strings.Repeat("a", 21) }},
		{"a file that is no word", func(main, half, div *api.Entry) { div.File = "b c" }},
		{"a file with a byte above 127", func(main, half, div *api.Entry) { div.File = "\xe4" }},

		{"no Lines", func(main, half, div *api.Entry) { main.Lines = nil }},
		{"no Index", func(main, half, div *api.Entry) { main.Index = nil }},
		{"neither", func(main, half, div *api.Entry) { div.Lines, div.Index = nil, nil }},
		{"a line 0", func(main, half, div *api.Entry) { half.Lines[4].Value = 0 }},
		{"a line 10000", func(main, half, div *api.Entry) { half.Lines[4].Value = 10000 }},
		{"a line below 0", func(main, half, div *api.Entry) { half.Lines[0].Value = -1 }},
		{"neighbours in Lines", func(main, half, div *api.Entry) { half.Lines[1].Value = 7 }},
		{"neighbours in Index", func(main, half, div *api.Entry) { half.Index = spans(0, 2, 1, 2, 1, 1) }},
		{"a Len 0 in Lines", func(main, half, div *api.Entry) { half.Lines = append(half.Lines, api.Span{Value: 1}) }},
		{"a Len 0 in Index", func(main, half, div *api.Entry) { half.Index = append(half.Index, api.Span{Value: 1}) }},
		{"Lines longer", func(main, half, div *api.Entry) { div.Lines[1].Len = 2 }},
		{"Lines shorter", func(main, half, div *api.Entry) { half.Lines = half.Lines[:4] }},
		{"Index longer", func(main, half, div *api.Entry) { half.Index[2].Len = 2 }},
		{"Index shorter", func(main, half, div *api.Entry) { div.Index[0].Len = 1 }},
		{"both too long", func(main, half, div *api.Entry) { div.Lines, div.Index = spans(1, most), spans(0, most) }},
		{"Lens that overflow to the right sum", func(main, half, div *api.Entry) {
			div.Lines = spans(1, most, 2, most, 1, 4)
		}},
		{"994 pcs in the last", func(main, half, div *api.Entry) { div.Lines, div.Index = spans(1, 994), spans(0, 994) }},

		{"a node too few", func(main, half, div *api.Entry) { half.Tree = nil }},
		{"a node too many", func(main, half, div *api.Entry) { half.Tree = nodes(2, 1, 2, 3) }},
		{"the same node twice", func(main, half, div *api.Entry) { half.Tree = nodes(2, 1, 2, 1) }},
		{"a node where there is none", func(main, half, div *api.Entry) { main.Tree = nodes(1, 0) }},
		{"an Index without 1", func(main, half, div *api.Entry) { half.Index[1].Value = 2 }},
		{"an Index without 1, with two nodes", func(main, half, div *api.Entry) { half.Index[1].Value, half.Tree = 2, nodes(2, 1, 2, 3) }},
		{"instance 9999", func(main, half, div *api.Entry) { half.Index[1].Value, half.Tree = 9999, make([]api.Node, 9999) }},
		{"an instance in its own place alone", func(main, half, div *api.Entry) { main.Index, main.Tree = spans(1, 2), nodes(1, 0) }},
		{"a node of function 3", func(main, half, div *api.Entry) { half.Tree[0].Func = 3 }},
		{"a node of function -1", func(main, half, div *api.Entry) { half.Tree[0].Func = -1 }},
		{"a node of the greatest function", func(main, half, div *api.Entry) { half.Tree[0].Func = most }},
		{"a node of the least function", func(main, half, div *api.Entry) { half.Tree[0].Func = least }},
	} {
		i := smallImage()
		c.turn(&i.Funcs[0], &i.Funcs[1], &i.Funcs[2])
		isNoImage(t, c.what, i)
	}
	for _, pc := range append(numbers, 3, 4, 5, 6) {
		i := smallImage()
		i.Funcs[1].Tree[0].Pc = pc
		if pc == 1 {
			isImage(t, "the Pc 1", i)
			continue
		}
		isNoImage(t, fmt.Sprint("the Pc ", pc), i)
	}
}

// eachIndex calls f with every list of at most n instances out of 0 to greatest.
func eachIndex(n, greatest int, f func(instances []int)) {
	var some []byte
	for v := range greatest + 1 {
		some = append(some, byte(v))
	}
	eachList(some, n, func(b []byte) {
		var l []int
		for _, v := range b {
			l = append(l, int(v))
		}
		f(l)
	})
}

// eachTree calls f with every Tree of at most n nodes of function 0 with Pcs from one number to another.
func eachTree(n, from, to int, f func(l []api.Node)) {
	var some []byte
	for pc := from; pc <= to; pc++ {
		some = append(some, byte(pc-from))
	}
	eachList(some, n, func(b []byte) {
		var l []api.Node
		for _, pc := range b {
			l = append(l, api.Node{Pc: int(pc) + from})
		}
		f(l)
	})
}

// Every short Index with every short Tree.
func TestP7AllShortTrees(t *testing.T) {
	may, mayNot := 0, 0
	eachIndex(5, 3, func(instances []int) {
		eachTree(3, -1, len(instances), func(tree []api.Node) {
			i := single(instances, tree)
			b, e := unfold.Encode(i)
			if !toldImage(i) {
				mayNot++
				if e != api.ErrImage || len(b) != 0 {
					t.Fatalf("Encode(%+v) = %v, %d, want ErrImage", i, b, e)
				}
				return
			}
			may++
			if e != api.OK || !bytes.Equal(b, toldImageBytes(i)) {
				t.Fatalf("Encode(%+v) = %v, %d, want %v", i, b, e, toldImageBytes(i))
			}
		})
	})
	if may < 100 || mayNot < 100 {
		t.Errorf("%d images, and %d that are none", may, mayNot)
	}
}

// imageFields are the numbers of an image.
func imageFields(i api.Image) []*int {
	var l []*int
	for k := range i.Funcs {
		f := &i.Funcs[k]
		for _, table := range [][]api.Span{f.Lines, f.Index} {
			for s := range table {
				l = append(l, &table[s].Value, &table[s].Len)
			}
		}
		for n := range f.Tree {
			l = append(l, &f.Tree[n].Func, &f.Tree[n].Pc)
		}
	}
	return l
}

// drawnTree is an Index of some pcs, and its Tree: instances stand ahead of their
// Calls too, and more than once.
func drawnTree(r *rand.Rand, pcs, funcs int) ([]api.Span, []api.Node) {
	many := r.Intn(1 + r.Intn(8))
	instances := []int{r.Intn(many + 1)}
	var tree []api.Node
	for pc := 1; pc < pcs; pc++ {
		last := instances[pc-1]
		next := len(tree) + 1
		switch draw := r.Intn(6); {
		case draw < 2 && next <= many && last < next:
			tree = append(tree, api.Node{Func: r.Intn(funcs), Pc: pc - 1})
			instances = append(instances, next)
		case draw < 4:
			instances = append(instances, last)
		case draw < 5:
			instances = append(instances, r.Intn(next))
		default:
			instances = append(instances, r.Intn(many+1))
		}
	}
	for pc, v := range instances {
		if v > len(tree) {
			instances[pc] = 0
		}
	}
	return folded(instances...), tree
}

func drawnWord(r *rand.Rand) string {
	const letters = "abcdefghijklmnopqrstuvwxyz0123456789./"
	b := make([]byte, 1+r.Intn(1+r.Intn(20)))
	for k := range b {
		b[k] = letters[r.Intn(len(letters))]
	}
	return string(b)
}

// drawnImage is a well-formed one.
func drawnImage(r *rand.Rand) api.Image {
	funcs := 1 + r.Intn(1+r.Intn(12))
	files := []string{drawnWord(r), "a", "b", drawnWord(r)}
	var i api.Image
	for k := range funcs {
		var lines []int
		line := 1 + r.Intn(9999)
		for range 1 + r.Intn(1+r.Intn(83)) {
			if r.Intn(2) == 0 {
				line = 1 + r.Intn(1+r.Intn(9999))
			}
			lines = append(lines, line)
		}
		f := api.Entry{Name: fmt.Sprint(k, "/", drawnWord(r)), File: files[r.Intn(len(files))], Lines: folded(lines...)}
		f.Name = f.Name[:min(len(f.Name), 20)]
		f.Index, f.Tree = drawnTree(r, len(lines), funcs)
		i.Funcs = append(i.Funcs, f)
	}
	return i
}

func TestP7DrawnImages(t *testing.T) {
	r := rand.New(rand.NewSource(8))
	may, mayNot, nodes := 0, 0, 0
	for range 800 {
		i := drawnImage(r)
		if !toldImage(i) {
			t.Fatalf("no image was drawn: %+v", i)
		}
		isImage(t, "a drawn image", i)
		for range 20 {
			other := copied(i)
			l := imageFields(other)
			field := l[r.Intn(len(l))]
			was := *field
			for _, v := range []int{was - 1, was + 1, r.Intn(10), numbers[r.Intn(len(numbers))]} {
				*field = v
				if toldImage(other) {
					may++
					isImage(t, "a changed image", other)
				} else {
					mayNot++
					isNoImage(t, "a changed image", other)
				}
			}
		}
		for _, f := range i.Funcs {
			nodes += len(f.Tree)
		}
		if t.Failed() {
			return
		}
	}
	if may < 5000 || mayNot < 5000 || nodes < 2000 {
		t.Errorf("%d images, %d that are none, %d nodes", may, mayNot, nodes)
	}
}
