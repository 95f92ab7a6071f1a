package unfold_test

import (
	"bytes"
	"math/rand"
	"reflect"
	"slices"
	"strings"
	"testing"

	"unfold/api"
	"unfold/unfold"
)

// spoiltImage is one in which some numbers, texts or lists are other ones.
func spoiltImage(r *rand.Rand) api.Image {
	i := drawnImage(r)
	for range r.Intn(3) {
		l := imageFields(i)
		*l[r.Intn(len(l))] = numbers[r.Intn(len(numbers))]
	}
	f := &i.Funcs[r.Intn(len(i.Funcs))]
	switch r.Intn(12) {
	case 0:
		f.Name = string(drawnBytes(r))
	case 1:
		f.File = string(drawnBytes(r))
	case 2:
		f.Name = i.Funcs[0].Name
	case 3:
		f.Lines = drawnSpans(r)
	case 4:
		f.Index = drawnSpans(r)
	case 5:
		f.Tree = f.Tree[:r.Intn(len(f.Tree)+1)]
	case 6:
		f.Tree = append(f.Tree, api.Node{Func: r.Intn(3), Pc: r.Intn(9)})
	case 7:
		i.Funcs = append(i.Funcs, evenly(r.Intn(14), 1+r.Intn(90)).Funcs...)
	}
	return i
}

func TestP1ImagesAtAllInputs(t *testing.T) {
	r := rand.New(rand.NewSource(11))
	may, mayNot := 0, 0
	for range 6000 {
		i := spoiltImage(r)
		if toldImage(i) {
			may++
			isImage(t, "a spoilt image", i)
		} else {
			mayNot++
			isNoImage(t, "a spoilt image", i)
		}
		if t.Failed() {
			return
		}
	}
	if may < 500 || mayNot < 500 {
		t.Errorf("%d images, and %d that are none", may, mayNot)
	}
}

// Bytes out of which no image was made, behind the beginning of one.
func TestP1DecodeAtAllInputs(t *testing.T) {
	r := rand.New(rand.NewSource(12))
	for range 20000 {
		b := slices.Concat(smallBytes()[:r.Intn(62)], drawnBytes(r), drawnBytes(r))
		decodes(t, b)
		pcs := []int{0, 1}
		pcs[r.Intn(2)] = numbers[r.Intn(len(numbers))]
		l, e := unfold.Symbolize(b, pcs)
		if _, want, _ := toldDecode(b); want != api.OK && e != want {
			t.Fatalf("Symbolize(%v, %v): %d, want %d", b, pcs, e, want)
		}
		if e != api.OK && len(l) != 0 {
			t.Fatalf("Symbolize(%v, %v) = %v beside the error %d", b, pcs, l, e)
		}
	}
	for _, first := range numbers {
		for _, second := range numbers {
			l, e := unfold.Symbolize(smallBytes(), []int{first, second})
			want := api.OK
			if first < 0 || first > 8 || second < 1 || second > 9 {
				want = api.ErrPc
			}
			if e != want || e != api.OK && len(l) != 0 {
				t.Errorf("Symbolize(.., %d, %d) = %v, %d, want %d", first, second, l, e, want)
			}
		}
	}
}

func TestP1ImagesOfLongLists(t *testing.T) {
	const many = 1 << 20
	for _, turn := range []func(f *api.Entry){
		func(f *api.Entry) { f.Name = strings.Repeat("a", many) },
		func(f *api.Entry) { f.File = strings.Repeat("a", many) },
		func(f *api.Entry) { f.Lines = slices.Repeat(spans(1, 1, 2, 1), many) },
		func(f *api.Entry) { f.Index = slices.Repeat(spans(1, 1, 2, 1), many) },
		func(f *api.Entry) { f.Tree = make([]api.Node, many) },
	} {
		i := smallImage()
		turn(&i.Funcs[1])
		isNoImage(t, "an image with a long list", i)
	}
	isNoImage(t, "an image of many functions", api.Image{Funcs: make([]api.Entry, many)})
	isWrong(t, "many bytes behind an image", append(smallBytes(), make([]byte, many)...), api.ErrImage, 61)
	isWrong(t, "many spans", append(smallBytes()[:12], bytes.Repeat([]byte{2, 1, 1, 1}, many)...), api.ErrTable, 12)

	l := slices.Repeat([]api.Frame{{Func: "a", File: "b", Line: 1}}, many)
	if s, e := unfold.Print(l); e != api.OK || s != strings.Repeat("a b:1\n", many) {
		t.Errorf("Print of many frames: %d bytes, %d", len(s), e)
	}
	l[many-1].Line = 0
	if s, e := unfold.Print(l); e != api.ErrFrame || s != "" {
		t.Errorf("Print of many frames with a line 0: %d bytes, %d", len(s), e)
	}
	long := strings.Repeat("a", many)
	if s, e := unfold.Print([]api.Frame{{Func: long, File: long, Line: 1}}); e != api.ErrFrame || s != "" {
		t.Errorf("Print of long names: %d bytes, %d", len(s), e)
	}
}

// A list of nothing may be nil or empty.
func TestImagesOfNothing(t *testing.T) {
	for _, l := range [][]api.Entry{nil, {}, make([]api.Entry, 0, 9)} {
		isNoImage(t, "no functions", api.Image{Funcs: l})
	}
	for _, l := range [][]api.Node{nil, {}, make([]api.Node, 0, 9)} {
		i := smallImage()
		i.Funcs[0].Tree, i.Funcs[2].Tree = l, l
		isImage(t, "no nodes", i)
	}
	for _, l := range [][]api.Span{nil, {}, make([]api.Span, 0, 9)} {
		i := smallImage()
		i.Funcs[0].Lines, i.Funcs[0].Index = l, l
		isNoImage(t, "no pcs", i)
	}
	for _, b := range [][]byte{nil, {}, make([]byte, 0, 9)} {
		isWrong(t, "no bytes", b, api.ErrShort, 0)
	}
	for _, l := range [][]int{nil, {}, make([]int, 0, 9)} {
		tells(t, smallImage(), l, "")
	}
	for _, l := range [][]api.Frame{nil, {}, make([]api.Frame, 0, 9)} {
		if s, e := unfold.Print(l); e != api.OK || s != "" {
			t.Errorf("Print of nothing = %q, %d", s, e)
		}
	}
}

// withRoom is a list with spare room, in which something stands.
func withRoom[T any](l []T, room ...T) []T {
	return append(slices.Clone(l), room...)[:len(l)]
}

// behind is a list with its spare room.
func behind[T any](l []T) []T { return slices.Clone(l[:cap(l)]) }

// roomyImage is an image whose lists have spare room.
func roomyImage(i api.Image) api.Image {
	i = copied(i)
	for k := range i.Funcs {
		f := &i.Funcs[k]
		f.Lines = withRoom(f.Lines, spans(7, 7, 8, 8)...)
		f.Index = withRoom(f.Index, spans(7, 7, 8, 8)...)
		f.Tree = withRoom(f.Tree, nodes(7, 7, 8, 8)...)
	}
	return api.Image{Funcs: withRoom(i.Funcs, api.Entry{Name: "room"}, api.Entry{Name: "room"})}
}

// partsOf are the lists of some functions with their spare room.
func partsOf(funcs []api.Entry) []any {
	var l []any
	for _, f := range funcs {
		l = append(l, behind(f.Lines), behind(f.Index), behind(f.Tree))
	}
	return l
}

// allOf are the lists of an image with their spare room.
func allOf(i api.Image) []any {
	return append(partsOf(i.Funcs), behind(i.Funcs))
}

func TestP2ImagesAreNotWrittenInto(t *testing.T) {
	r := rand.New(rand.NewSource(13))
	for range 1000 {
		i := roomyImage(spoiltImage(r))
		kept := allOf(i)
		b, e := unfold.Encode(i)
		if !reflect.DeepEqual(allOf(i), kept) {
			t.Fatalf("%+v has become %+v", kept, allOf(i))
		}
		if other, otherE := unfold.Encode(copied(i)); e != otherE || !bytes.Equal(b, other) {
			t.Fatalf("Encode(%+v) hangs on what stands behind", i)
		}

		// The rest of an image stands behind the list: reading it shows.
		whole := toldImageBytes(drawnImage(r))
		keptBytes := bytes.Clone(whole)
		cut := whole[:r.Intn(len(whole)+1)]
		decodes(t, cut)
		pcs := withRoom([]int{0, 1}, 1, 1, -9)
		keptPcs := behind(pcs)
		unfold.Symbolize(cut, pcs)
		unfold.Symbolize(whole, pcs)
		if !bytes.Equal(whole, keptBytes) || !slices.Equal(behind(pcs), keptPcs) {
			t.Fatalf("%v has become %v, or %v %v", keptBytes, whole, keptPcs, behind(pcs))
		}

		frames := withRoom([]api.Frame{{Func: "a", File: "b", Line: 1 + r.Intn(9999)}}, api.Frame{Func: "room"})
		keptFrames := behind(frames)
		unfold.Print(frames)
		if !slices.Equal(behind(frames), keptFrames) {
			t.Fatalf("%v has become %v", keptFrames, behind(frames))
		}
	}
}

func TestP2EncodeIsFresh(t *testing.T) {
	for _, i := range []api.Image{smallImage(), evenly(12, 3), ladder()} {
		want := toldImageBytes(i)
		first, _ := unfold.Encode(i)
		second, _ := unfold.Encode(i)
		spoil(first, 99)
		third, _ := unfold.Encode(i)
		spoil(i.Funcs[0].Tree, api.Node{Func: -1, Pc: -1})
		spoil(i.Funcs[0].Lines, api.Span{})
		spoil(i.Funcs, api.Entry{Name: "x"})
		if !bytes.Equal(second, want) || !bytes.Equal(third, want) {
			t.Errorf("Encode: %v and %v, want %v", second, third, want)
		}
	}
}

// writes has for each list of an image, in the order of allOf, a way to write into
// it and into its spare room.
func writes(i api.Image) []func() {
	var l []func()
	for _, f := range i.Funcs {
		l = append(l, func() { spoil(f.Lines, api.Span{Value: -1, Len: -1}) })
		l = append(l, func() { spoil(f.Index, api.Span{Value: -2, Len: -2}) })
		l = append(l, func() { spoil(f.Tree, api.Node{Func: -3, Pc: -3}) })
	}
	return append(l, func() { spoil(i.Funcs, api.Entry{Name: "x"}) })
}

func TestP2DecodeIsFresh(t *testing.T) {
	for _, want := range []api.Image{smallImage(), evenly(12, 3), single([]int{0, 1, 0, 2, 1, 3}, nodes(0, 0, 0, 2, 0, 4))} {
		b := toldImageBytes(want)
		for n := range writes(want) {
			first, _, _ := unfold.Decode(b)
			second, _, _ := unfold.Decode(b)
			funcs := slices.Clone(first.Funcs)
			parts := partsOf(funcs)
			writes(first)[n]()
			third, _, _ := unfold.Decode(b)
			if !sameImage(second, want) || !sameImage(third, want) {
				t.Fatalf("Decode: %+v and %+v, want %+v", second, third, want)
			}
			for k, part := range partsOf(funcs) {
				if k != n && !reflect.DeepEqual(part, parts[k]) {
					t.Fatalf("list %d of %+v has changed with list %d", k, want, n)
				}
			}
		}
		got, _, _ := unfold.Decode(b)
		spoil(b, 'z')
		if !sameImage(got, want) {
			t.Errorf("Decode hangs on its argument: %+v, want %+v", got, want)
		}
	}
}

func TestP2SymbolizeIsFresh(t *testing.T) {
	b, pcs := smallBytes(), []int{4, 1}
	first, _ := unfold.Symbolize(b, pcs)
	second, _ := unfold.Symbolize(b, pcs)
	want := slices.Clone(first)
	spoil(first, api.Frame{Func: "x", File: "y", Line: -1})
	third, _ := unfold.Symbolize(b, pcs)
	printed, _ := unfold.Print(third)
	spoil(b, 'z')
	spoil(pcs, 9)
	if !slices.Equal(second, want) || !slices.Equal(third, want) {
		t.Errorf("Symbolize: %v and %v, want %v", second, third, want)
	}
	spoil(third, api.Frame{Func: "x", File: "y", Line: 1})
	if printed != "div b:12\nhalf b:8\nmain a:3\n" {
		t.Errorf("Print hangs on its argument: %q", printed)
	}
}
