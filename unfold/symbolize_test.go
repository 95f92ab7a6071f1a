package unfold_test

import (
	"bytes"
	"fmt"
	"math/rand"
	"slices"
	"strings"
	"testing"

	"unfold/api"
	"unfold/unfold"
)

// tells fails if pcs do not stand for some frames.
func tells(t *testing.T, i api.Image, pcs []int, frames string) {
	t.Helper()
	l, e := unfold.Symbolize(toldImageBytes(i), pcs)
	if e != api.OK || stack(l) != frames {
		t.Errorf("Symbolize(.., %v) = %v, %d, want %s", pcs, l, e, frames)
	}
}

func TestP9Example(t *testing.T) {
	tells(t, smallImage(), []int{4, 1}, "div b 12, half b 8, main a 3")
	for _, pcs := range [][]int{{9}, {0, 0}} {
		if l, e := unfold.Symbolize(smallBytes(), pcs); e != api.ErrPc || len(l) != 0 {
			t.Errorf("Symbolize(.., %v) = %v, %d, want ErrPc", pcs, l, e)
		}
	}
}

// Each pc of the small image: as the first one it is meant itself, as another one the one ahead of it.
func TestP9EachPc(t *testing.T) {
	at := []string{"main a 3", "main a 4", "half b 7", "half b 8", "div b 12, half b 8", "div b 13, half b 8", "half b 9", "div b 12", "div b 13"}
	for pc, frames := range at {
		tells(t, smallImage(), []int{pc}, frames)
		for other, more := range at {
			tells(t, smallImage(), []int{pc, other + 1}, frames+", "+more)
			tells(t, smallImage(), []int{1, pc + 1, other + 1}, "main a 4, "+frames+", "+more)
		}
	}
	tells(t, smallImage(), nil, "")
	tells(t, smallImage(), []int{}, "")
}

// The function and the file are the node's, the line that of the place.
func TestP9Nodes(t *testing.T) {
	i := evenly(4, 1)
	i.Funcs[2] = api.Entry{Name: "own", File: "home", Lines: spans(11, 1, 12, 1, 13, 1, 14, 1, 15, 1, 16, 1), Index: spans(2, 1, 0, 1, 1, 1, 2, 1, 1, 1, 0, 1), Tree: nodes(3, 1, 0, 2)}
	for pc, frames := range []string{
		"f0 f0 1", "f1 f1 2",
		"f0 f0 11, f3 f3 13, own home 12", "own home 12", "f3 f3 13, own home 12", "f0 f0 14, f3 f3 13, own home 12", "f3 f3 15, own home 12", "own home 16",
		"f3 f3 4",
	} {
		tells(t, i, []int{pc}, frames)
		tells(t, i, []int{0, pc + 1}, "f0 f0 1, "+frames)
	}
}

func TestP9Deep(t *testing.T) {
	pcs := []int{999}
	want := "f f 1" + strings.Repeat(", f f 1", 999)
	for len(pcs) < 20 {
		pcs = append(pcs, 1000)
		want += strings.Repeat(", f f 1", 1000)
	}
	tells(t, ladder(), pcs, want)
}

func TestP9Wrong(t *testing.T) {
	short, long := slices.Repeat([]int{1}, 20), slices.Repeat([]int{1}, 21)
	tells(t, smallImage(), short, "main a 4"+strings.Repeat(", main a 3", 19))
	for _, c := range []struct {
		what string
		b    []byte
		pcs  []int
		e    api.Errno
	}{
		{"21 pcs", smallBytes(), long, api.ErrPc},
		{"many pcs", smallBytes(), make([]int, 1<<20), api.ErrPc},
		{"the first pc -1", smallBytes(), []int{-1}, api.ErrPc},
		{"the first pc 9", smallBytes(), []int{9, 1}, api.ErrPc},
		{"the first pc 10", smallBytes(), []int{10}, api.ErrPc},
		{"the greatest first pc", smallBytes(), []int{most}, api.ErrPc},
		{"the least first pc", smallBytes(), []int{least}, api.ErrPc},
		{"another pc 0", smallBytes(), []int{8, 0}, api.ErrPc},
		{"another pc -1", smallBytes(), []int{8, -1}, api.ErrPc},
		{"another pc 10", smallBytes(), []int{8, 10}, api.ErrPc},
		{"a third pc 0", smallBytes(), []int{8, 9, 0}, api.ErrPc},
		{"the last pc 10", smallBytes(), append(slices.Clone(short[:19]), 10), api.ErrPc},
		{"another greatest pc", smallBytes(), []int{0, most}, api.ErrPc},
		{"another least pc", smallBytes(), []int{0, least}, api.ErrPc},
		{"no bytes", nil, nil, api.ErrShort},
		{"no bytes, and no pc", nil, []int{-1}, api.ErrShort},
		{"no image, and 21 pcs", append(smallBytes(), 0), long, api.ErrImage},
		{"no number", append(smallBytes()[:3], 131, 0), []int{0}, api.ErrNumber},
		{"no table", append(smallBytes()[:12], 0), []int{0}, api.ErrTable},
	} {
		if l, e := unfold.Symbolize(c.b, c.pcs); e != c.e || len(l) != 0 {
			t.Errorf("%s: Symbolize(.., %v) = %v, %d, want %d", c.what, c.pcs, l, e, c.e)
		}
	}
}

// toldFrames says what P9 says of pc x of function n.
func toldFrames(i api.Image, n, x int) []api.Frame {
	f := i.Funcs[n]
	line, _ := unfold.At(f.Lines, x)
	k, _ := unfold.At(f.Index, x)
	if k == 0 {
		return []api.Frame{{Func: f.Name, File: f.File, Line: line}}
	}
	node := f.Tree[k-1]
	of := i.Funcs[node.Func]
	return append([]api.Frame{{Func: of.Name, File: of.File, Line: line}}, toldFrames(i, n, node.Pc)...)
}

// toldPcs lists the frames of each pc of an image.
func toldPcs(i api.Image) [][]api.Frame {
	var l [][]api.Frame
	for n, f := range i.Funcs {
		for x := 0; ; x++ {
			if _, e := unfold.At(f.Lines, x); e != api.OK {
				break
			}
			l = append(l, toldFrames(i, n, x))
		}
	}
	return l
}

func TestP9DrawnImages(t *testing.T) {
	r := rand.New(rand.NewSource(10))
	may, mayNot, deep := 0, 0, 0
	for range 2000 {
		i := drawnImage(r)
		b := toldImageBytes(i)
		kept := bytes.Clone(b)
		at := toldPcs(i)
		for range 10 {
			var pcs []int
			var want []api.Frame
			e := api.OK
			for k := range r.Intn(1 + r.Intn(22)) {
				pc := r.Intn(len(at))
				if r.Intn(15) == 0 {
					pc = r.Intn(len(at)+4) - 2
				}
				if k == 20 || pc < 0 || pc >= len(at) {
					e = api.ErrPc
				} else {
					want = append(want, at[pc]...)
					deep = max(deep, len(at[pc]))
				}
				pcs = append(pcs, pc+min(k, 1))
			}
			if e != api.OK {
				want = nil
				mayNot++
			} else {
				may++
			}
			if l, gotE := unfold.Symbolize(b, pcs); gotE != e || !slices.Equal(l, want) {
				t.Fatalf("Symbolize(%v, %v) = %v, %d, want %v, %d", b, pcs, l, gotE, want, e)
			}
		}
		if !bytes.Equal(b, kept) {
			t.Fatalf("%v has become %v", kept, b)
		}
	}
	if may < 1000 || mayNot < 500 || deep < 4 {
		t.Errorf("%d answers, %d errors, at most %d frames for a pc", may, mayNot, deep)
	}
}

func TestP10Print(t *testing.T) {
	frames, _ := unfold.Symbolize(smallBytes(), []int{4, 1})
	for _, c := range []struct {
		l    []api.Frame
		want string
	}{
		{nil, ""},
		{[]api.Frame{}, ""},
		{frames, "div b:12\nhalf b:8\nmain a:3\n"},
		{[]api.Frame{{Func: "0./z", File: "/a.9", Line: 1}}, "0./z /a.9:1\n"},
		{[]api.Frame{{Func: strings.Repeat("f", 20), File: strings.Repeat("g", 20), Line: 9999}}, strings.Repeat("f", 20) + " " + strings.Repeat("g", 20) + ":9999\n"},
		{[]api.Frame{{Func: "f", File: "f", Line: 10}, {Func: "f", File: "f", Line: 10}}, "f f:10\nf f:10\n"},
	} {
		if s, e := unfold.Print(c.l); e != api.OK || s != c.want {
			t.Errorf("Print(%v) = %q, %d, want %q", c.l, s, e, c.want)
		}
	}
	for line := 1; line <= 9999; line++ {
		if s, e := unfold.Print([]api.Frame{{Func: "a", File: "b", Line: line}}); e != api.OK || s != fmt.Sprintf("a b:%d\n", line) {
			t.Fatalf("Print of the line %d = %q, %d", line, s, e)
		}
	}
}

func TestP10Wrong(t *testing.T) {
	good := api.Frame{Func: "a", File: "b", Line: 1}
	refused := func(f api.Frame) {
		for _, l := range [][]api.Frame{{f}, {f, good}, {good, f}, {good, f, good}} {
			if s, e := unfold.Print(l); e != api.ErrFrame || s != "" {
				t.Errorf("Print(%+v) = %q, %d, want ErrFrame", l, s, e)
			}
		}
	}
	for _, s := range []string{"", "A", " ", "a b", "a:", "a\n", "-", "_", "\x00", "\xff", "é", strings.Repeat("a", 21)} {
		refused(api.Frame{Func: s, File: "b", Line: 1})
		refused(api.Frame{Func: "a", File: s, Line: 1})
	}
	for _, line := range []int{0, -1, 10000, 10001, 1 << 32, most, least} {
		refused(api.Frame{Func: "a", File: "b", Line: line})
	}
	refused(api.Frame{})
}

// What Run tells can be printed.
func TestP10Runs(t *testing.T) {
	s, _ := unfold.Run(small(), []int{6}, 3)
	if got, e := unfold.Print(s.Frames); e != api.OK || got != "div b:12\nhalf b:8\nmain a:3\n" {
		t.Errorf("Print = %q, %d", got, e)
	}
}
