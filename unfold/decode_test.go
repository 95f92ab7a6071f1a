package unfold_test

import (
	"bytes"
	"fmt"
	"math/rand"
	"slices"
	"strings"
	"testing"

	"unfold/api"
	"unfold/unfold"
)

// wrong is thrown at the first item that is.
type wrong struct {
	e  api.Errno
	at int
}

// toldDecode says what P8 says, item by item.
func toldDecode(b []byte) (i api.Image, e api.Errno, at int) {
	defer func() {
		x := recover()
		if x == nil {
			return
		}
		w, ok := x.(wrong)
		if !ok {
			panic(x)
		}
		i, e, at = api.Image{}, w.e, w.at
	}()
	for k, c := range []byte{85, 70, 1} {
		if k < len(b) && b[k] != c {
			panic(wrong{api.ErrImage, 0})
		}
	}
	if len(b) < 3 {
		panic(wrong{api.ErrShort, 0})
	}
	here := 3
	must := func(mayBe bool, place int) {
		if !mayBe {
			panic(wrong{api.ErrImage, place})
		}
	}
	number := func(mayBe func(n int) bool) int {
		n, to, e := unfold.GetNumber(b, here)
		if e != api.OK {
			panic(wrong{e, here})
		}
		must(mayBe(n), here)
		here = to
		return n
	}
	upTo := func(from, to int) func(n int) bool {
		return func(n int) bool { return from <= n && n <= to }
	}
	text := func(isTaken func(s string) bool) string {
		n := number(upTo(1, 20))
		if here+n > len(b) {
			panic(wrong{api.ErrShort, here})
		}
		s := string(b[here : here+n])
		must(wordPattern.MatchString(s) && !isTaken(s), here)
		here += n
		return s
	}
	table := func(mayBe func(l []api.Span) bool) []api.Span {
		l, to, e := unfold.GetTable(b, here)
		if e != api.OK {
			panic(wrong{e, here})
		}
		must(mayBe(l), here)
		here = to
		return l
	}
	length := func(l []api.Span) int {
		n := 0
		for _, s := range l {
			n += s.Len
		}
		return n
	}
	names := map[string]bool{}
	var files []string
	all := 0
	funcs := number(upTo(1, 12))
	for range funcs {
		var f api.Entry
		f.Name = text(func(s string) bool { return names[s] })
		names[f.Name] = true
		n := number(upTo(0, len(files)))
		if n == len(files) {
			files = append(files, text(func(s string) bool { return slices.Contains(files, s) }))
		}
		f.File = files[n]
		f.Lines = table(func(l []api.Span) bool {
			all += length(l)
			return all <= 1000 && !slices.ContainsFunc(l, func(s api.Span) bool { return s.Value == 0 })
		})
		f.Index = table(func(l []api.Span) bool { return length(l) == length(f.Lines) })
		greatest := slices.MaxFunc(f.Index, func(a, b api.Span) int { return a.Value - b.Value }).Value
		for k := 1; k <= greatest; k++ {
			fn := number(upTo(0, funcs-1))
			pc := number(func(pc int) bool {
				around, e1 := unfold.At(f.Index, pc)
				begun, e2 := unfold.At(f.Index, pc+1)
				return e1 == api.OK && e2 == api.OK && around < k && begun == k && (k == 1 || pc > f.Tree[k-2].Pc)
			})
			f.Tree = append(f.Tree, api.Node{Func: fn, Pc: pc})
		}
		i.Funcs = append(i.Funcs, f)
	}
	must(here == len(b), here)
	return i, api.OK, 0
}

// decodes fails if bytes are not read as told; it gives back the error that was told.
func decodes(t *testing.T, b []byte) api.Errno {
	t.Helper()
	want, e, at := toldDecode(b)
	got, gotE, gotAt := unfold.Decode(b)
	if gotE != e || gotAt != at || !sameImage(got, want) {
		t.Fatalf("Decode(%v) = %+v, %d, %d, want %+v, %d, %d", b, got, gotE, gotAt, want, e, at)
	}
	if e != api.OK {
		return e
	}
	if again, e := unfold.Encode(got); e != api.OK || !bytes.Equal(again, b) {
		t.Fatalf("Encode of what Decode made of %v = %v, %d", b, again, e)
	}
	return e
}

func TestP8Examples(t *testing.T) {
	if i, e, at := unfold.Decode(smallBytes()); e != api.OK || at != 0 || !sameImage(i, smallImage()) {
		t.Errorf("Decode of the small image's bytes = %+v, %d, %d", i, e, at)
	}
	isWrong(t, "85 70", []byte{85, 70}, api.ErrShort, 0)
	isWrong(t, "85 71", []byte{85, 71}, api.ErrImage, 0)
	isWrong(t, "85 70 1", []byte{85, 70, 1}, api.ErrShort, 3)
	isWrong(t, "85 70 1 13", []byte{85, 70, 1, 13}, api.ErrImage, 3)
	isWrong(t, "a byte 0 more", append(smallBytes(), 0), api.ErrImage, 61)
}

func isWrong(t *testing.T, what string, b []byte, e api.Errno, at int) {
	t.Helper()
	if i, gotE, gotAt := unfold.Decode(b); gotE != e || gotAt != at || len(i.Funcs) != 0 {
		t.Errorf("%s: Decode(%v) = %+v, %d, %d, want %d, %d", what, b, i, gotE, gotAt, e, at)
	}
}

func TestP8Head(t *testing.T) {
	isWrong(t, "nothing", nil, api.ErrShort, 0)
	isWrong(t, "85", []byte{85}, api.ErrShort, 0)
	isWrong(t, "84", []byte{84}, api.ErrImage, 0)
	isWrong(t, "84 70", []byte{84, 70}, api.ErrImage, 0)
	for place := range 3 {
		for c := range 256 {
			b := smallBytes()
			if b[place] == byte(c) {
				continue
			}
			b[place] = byte(c)
			isWrong(t, "the head", b, api.ErrImage, 0)
		}
	}
}

// Each item of the small image, wrong in each way.
func TestP8Items(t *testing.T) {
	for _, c := range []struct {
		what string
		at   int // where bytes are put in
		out  int // in place of how many
		in   []byte
		e    api.Errno
		item int
	}{
		{"no functions", 3, 1, []byte{0}, api.ErrImage, 3},
		{"13 functions", 3, 1, []byte{13}, api.ErrImage, 3},
		{"the most functions", 3, 1, []byte{255, 255, 255, 255, 7}, api.ErrImage, 3},
		{"a number of functions that is none", 3, 1, []byte{131, 0}, api.ErrNumber, 3},
		{"a number of functions without end", 3, 1, []byte{131, 131, 131, 131, 131}, api.ErrNumber, 3},
		{"four functions", 3, 1, []byte{4}, api.ErrShort, 61},
		{"two functions", 3, 1, []byte{2}, api.ErrImage, 46},

		{"a name of no bytes", 4, 1, []byte{0}, api.ErrImage, 4},
		{"a name of 21 bytes", 4, 1, []byte{21}, api.ErrImage, 4},
		{"a name of more bytes than there are", 48, 1, []byte{20}, api.ErrShort, 49},
		{"a length that is none", 4, 1, []byte{132, 0}, api.ErrNumber, 4},
		{"a name that is no word", 6, 1, []byte("A"), api.ErrImage, 5},
		{"a name that is no word at its end", 8, 1, []byte{0}, api.ErrImage, 5},
		{"a later name that is no word", 51, 1, []byte("_"), api.ErrImage, 49},
		{"a name too long, and no word", 48, 4, []byte("\x14DIV"), api.ErrShort, 49},
		{"the name of the first", 48, 4, []byte("\x04main"), api.ErrImage, 49},
		{"the name of the one before", 48, 4, []byte("\x04half"), api.ErrImage, 49},

		{"file 1 of none", 9, 1, []byte{1}, api.ErrImage, 9},
		{"file 2 of one", 25, 1, []byte{2}, api.ErrImage, 25},
		{"file 3 of two", 52, 1, []byte{3}, api.ErrImage, 52},
		{"a file's number that is none", 52, 1, []byte{129, 0}, api.ErrNumber, 52},
		{"a file of no bytes", 10, 2, []byte{0}, api.ErrImage, 10},
		{"a file of 21 bytes", 10, 1, []byte{21}, api.ErrImage, 10},
		{"a file's length that is none", 26, 1, []byte{255, 255, 255, 255, 255}, api.ErrNumber, 26},
		{"a file that is no word", 11, 1, []byte("B"), api.ErrImage, 11},
		{"an old file told as a new one", 27, 1, []byte("a"), api.ErrImage, 27},
		{"the last file told as a new one", 52, 1, []byte("\x02\x01b"), api.ErrImage, 54},
		{"the first file told as a new one", 52, 1, []byte("\x02\x01a"), api.ErrImage, 54},
		{"an old file with its text", 52, 1, []byte("\x01\x01b"), api.ErrTable, 53},

		{"Lines of no span", 12, 1, []byte{0}, api.ErrTable, 12},
		{"Lines with a Len 0", 15, 1, []byte{0}, api.ErrTable, 12},
		{"Lines with a number that is none", 15, 1, []byte{129, 0}, api.ErrNumber, 12},
		{"Lines with a Value 10000", 14, 1, []byte{160, 156, 1}, api.ErrTable, 12},
		{"Lines with a first Value 0", 12, 1, []byte{2}, api.ErrImage, 12},
		{"Lines with a later Value 0", 14, 1, []byte{5}, api.ErrImage, 12},
		{"later Lines with a Value 0", 55, 1, []byte{23}, api.ErrImage, 53},
		{"Lines with a Value 0 and a number that is none", 12, 4, []byte{2, 1, 2, 129, 0}, api.ErrNumber, 12},
		{"Lines of 1000 pcs", 13, 1, []byte{231, 7}, api.ErrImage, 18},
		{"Lines and Index of 993 pcs", 13, 7, []byte{224, 7, 2, 1, 0, 2, 225, 7, 0}, api.OK, 0},
		{"Lines and Index of 994 pcs", 13, 7, []byte{225, 7, 2, 1, 0, 2, 226, 7, 0}, api.ErrImage, 55},
		{"Lines and Index of 996 pcs", 13, 7, []byte{227, 7, 2, 1, 0, 2, 228, 7, 0}, api.ErrImage, 30},

		{"an Index of no span", 17, 1, []byte{0}, api.ErrTable, 17},
		{"an Index with a Len 0", 18, 1, []byte{0}, api.ErrTable, 17},
		{"an Index with a number that is none", 18, 1, []byte{130, 0}, api.ErrNumber, 17},
		{"an Index of a pc less", 18, 1, []byte{1}, api.ErrImage, 17},
		{"an Index of a pc more", 18, 1, []byte{3}, api.ErrImage, 17},
		{"a later Index of a pc more", 59, 1, []byte{3}, api.ErrImage, 58},
		{"a last Index that falls below 0", 60, 1, []byte{1}, api.ErrTable, 58},

		{"a node's function 3", 46, 1, []byte{3}, api.ErrImage, 46},
		{"a node's function that is none", 46, 1, []byte{130, 0}, api.ErrNumber, 46},
		{"a node's greatest function", 46, 1, []byte{255, 255, 255, 255, 7}, api.ErrImage, 46},
		{"a node's Pc 0", 47, 1, []byte{0}, api.ErrImage, 47},
		{"a node's Pc 2", 47, 1, []byte{2}, api.ErrImage, 47},
		{"a node's Pc 3", 47, 1, []byte{3}, api.ErrImage, 47},
		{"a node's Pc 4", 47, 1, []byte{4}, api.ErrImage, 47},
		{"a node's Pc 5", 47, 1, []byte{5}, api.ErrImage, 47},
		{"a node's greatest Pc", 47, 1, []byte{255, 255, 255, 255, 7}, api.ErrImage, 47},
		{"a node's Pc that is none", 47, 1, []byte{129, 0}, api.ErrNumber, 47},
		{"an Index with a node more", 41, 1, []byte{4}, api.ErrImage, 47},
		{"a node more", 48, 0, []byte{2, 3}, api.ErrImage, 49},

		{"a byte 255 behind all", 61, 0, []byte{255}, api.ErrImage, 61},
		{"the same once more behind all", 61, 0, smallBytes(), api.ErrImage, 61},
	} {
		b := slices.Concat(smallBytes()[:c.at], c.in, smallBytes()[c.at+c.out:])
		if c.e == api.OK {
			if e := decodes(t, b); e != api.OK {
				t.Errorf("%s: Decode: %d", c.what, e)
			}
			continue
		}
		isWrong(t, c.what, b, c.e, c.item)
	}
}

// The places at which the items of the small image begin.
func TestP8Cut(t *testing.T) {
	items := []int{0, 3, 4, 5, 9, 10, 11, 12, 17, 20, 21, 25, 26, 27, 28, 39, 46, 47, 48, 49, 52, 53, 58, 61}
	b := smallBytes()
	for k := range b {
		n, _ := slices.BinarySearch(items, k+1)
		isWrong(t, fmt.Sprint("the first ", k, " bytes"), b[:k], api.ErrShort, items[n-1])
	}
}

// Numbers of more than one byte end an item too, where b ends within them.
func TestP8CutNumbers(t *testing.T) {
	i := ladder()
	i.Funcs[0].Name, i.Funcs[0].File = strings.Repeat("n", 20), strings.Repeat("f", 20)
	b := toldImageBytes(i)
	if e := decodes(t, b); e != api.OK {
		t.Fatalf("Decode of the ladder: %d", e)
	}
	for k := range b {
		if k < 200 || k > len(b)-200 || k%53 == 0 {
			decodes(t, b[:k])
		}
	}
}

func TestP8ChangedBytes(t *testing.T) {
	for at := range smallBytes() {
		for c := range 256 {
			b := smallBytes()
			b[at] = byte(c)
			decodes(t, b)
			decodes(t, slices.Insert(smallBytes(), at, byte(c)))
		}
		decodes(t, slices.Delete(smallBytes(), at, at+1))
	}
}

// Every short Index with every short Tree, read one node after the other.
func TestP8AllShortTrees(t *testing.T) {
	eachIndex(5, 3, func(instances []int) {
		if len(instances) == 0 {
			return
		}
		eachTree(3, 0, len(instances), func(tree []api.Node) {
			decodes(t, toldImageBytes(single(instances, tree)))
		})
	})
}

// Images with some bytes changed, put in or left out.
func TestP8DrawnImages(t *testing.T) {
	r := rand.New(rand.NewSource(9))
	var seen [12]int
	for range 2000 {
		whole := toldImageBytes(drawnImage(r))
		seen[decodes(t, whole)]++
		for range 40 {
			b := slices.Clone(whole)
			for range 1 + r.Intn(2) {
				at := r.Intn(len(b))
				switch r.Intn(4) {
				case 0:
					b[at] = byte(r.Intn(256))
				case 1:
					b[at] += byte(r.Intn(5) - 2)
				case 2:
					b = slices.Insert(b, at, drawnBytes(r)...)
				default:
					b = slices.Delete(b, at, min(len(b), at+1+r.Intn(3)))
				}
				if len(b) == 0 {
					break
				}
			}
			seen[decodes(t, b)]++
		}
	}
	for _, e := range []api.Errno{api.OK, api.ErrShort, api.ErrNumber, api.ErrTable, api.ErrImage} {
		if seen[e] < 500 {
			t.Errorf("of the answer %d there were %d", e, seen[e])
		}
	}
}
