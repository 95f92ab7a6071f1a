package unfold_test

import (
	"bytes"
	"math/rand"
	"reflect"
	"slices"
	"testing"

	"unfold/api"
	"unfold/unfold"
)

// numbers are those at which a sum, a place or a size may go wrong.
var numbers = []int{least, least + 1, -1 << 32, -1 << 31, -1001, -1, 0, 1, 2, 5, 999, 1000, 1001, 9998, 9999, 10000, 1<<31 - 1, 1 << 31, 1 << 32, most - 1, most}

func TestP1NumbersAtAllInputs(t *testing.T) {
	for _, n := range numbers {
		if b, e := unfold.PutNumber(n); e != api.OK && len(b) != 0 || e == api.OK && len(b) == 0 {
			t.Errorf("PutNumber(%d) = %v, %d", n, b, e)
		}
	}
	r := rand.New(rand.NewSource(1))
	for range 5000 {
		b := drawnBytes(r)
		for _, at := range append(numbers, len(b)-1, len(b), len(b)+1) {
			n, to, e := unfold.GetNumber(b, at)
			if e != api.OK && (n != 0 || to != 0) {
				t.Fatalf("GetNumber(%v, %d) = %d, %d beside the error %d", b, at, n, to, e)
			}
			if e == api.OK && (n < 0 || n > api.MaxNumber || to <= at || to > len(b)) {
				t.Fatalf("GetNumber(%v, %d) = %d, %d", b, at, n, to)
			}
		}
	}
}

func TestP1TablesAtAllInputs(t *testing.T) {
	r := rand.New(rand.NewSource(2))
	for range 5000 {
		b := drawnBytes(r)
		for _, at := range append(numbers, len(b)-1, len(b), len(b)+1) {
			l, to, e := unfold.GetTable(b, at)
			if e != api.OK && (len(l) != 0 || to != 0) {
				t.Fatalf("GetTable(%v, %d) = %v, %d beside the error %d", b, at, l, to, e)
			}
			if e == api.OK && (len(l) == 0 || to <= at || to > len(b)) {
				t.Fatalf("GetTable(%v, %d) = %v, %d", b, at, l, to)
			}
		}
		l := drawnSpans(r)
		if b, e := unfold.PutTable(l); e != api.OK && len(b) != 0 {
			t.Fatalf("PutTable(%v) = %v beside the error %d", l, b, e)
		}
		for _, pc := range numbers {
			if v, e := unfold.At(l, pc); e != api.OK && v != 0 {
				t.Fatalf("At(%v, %d) = %d beside the error %d", l, pc, v, e)
			}
		}
	}
}

// spoilt is a program in which some numbers, texts or lists are other ones.
func spoilt(r *rand.Rand) api.Program {
	p := drawnProgram(r)
	for range r.Intn(3) {
		l := fields(p)
		*l[r.Intn(len(l))] = numbers[r.Intn(len(numbers))]
	}
	f := &p.Funcs[r.Intn(len(p.Funcs))]
	switch r.Intn(12) {
	case 0:
		f.Name = string(drawnBytes(r))
	case 1:
		f.File = string(drawnBytes(r))
	case 2:
		f.Name = p.Funcs[0].Name
	case 3:
		f.Body = f.Body[:r.Intn(len(f.Body)+1)]
	case 4:
		o := &f.Body[r.Intn(len(f.Body))]
		o.Args = append(slices.Clone(o.Args), 0)
	}
	return p
}

func TestP1ProgramsAtAllInputs(t *testing.T) {
	r := rand.New(rand.NewSource(5))
	var seen [3]int
	for range 20000 {
		p := spoilt(r)
		e, f, s := unfold.Check(p)
		if wantE, wantF, wantS := toldCheck(p); e != wantE || f != wantF || s != wantS {
			t.Fatalf("Check(%+v) = %d, %d, %d, want %d, %d, %d", p, e, f, s, wantE, wantF, wantS)
		}
		args := drawnArgs(r, p)
		if len(args) > 0 && r.Intn(3) == 0 {
			args[r.Intn(len(args))] = numbers[r.Intn(len(numbers))]
		}
		n := numbers[r.Intn(len(numbers))]
		state, runE := unfold.Run(p, args, n)
		want := e
		if e == api.OK && (n < 0 || n > 2000 || slices.ContainsFunc(args, func(v int) bool { return v < 0 || v > 999 })) {
			want = api.ErrArg
		}
		if runE != want {
			t.Fatalf("Run(%+v, %v, %d): %d, want %d", p, args, n, runE, want)
		}
		if runE != api.OK && (state.Status != 0 || state.Value != 0 || len(state.Frames) != 0) {
			t.Fatalf("Run(%+v, %v, %d) = %+v beside the error %d", p, args, n, state, runE)
		}
		switch {
		case e != api.OK:
			seen[0]++
		case runE != api.OK:
			seen[1]++
		default:
			seen[2]++
		}
	}
	for k, times := range seen {
		if times < 500 {
			t.Errorf("of kind %d there were %d runs", k, times)
		}
	}
}

// Where two errors apply, the first that is named is the answer.
func TestP1FirstError(t *testing.T) {
	if _, e := unfold.At(spans(1, 0), -1); e != api.ErrTable {
		t.Errorf("At of no table and no pc: %d", e)
	}
	if _, _, e := unfold.GetNumber([]byte{128}, 2); e != api.ErrArg {
		t.Errorf("GetNumber behind the end of bytes that end too early: %d", e)
	}
	if _, _, e := unfold.GetTable([]byte{0}, 2); e != api.ErrArg {
		t.Errorf("GetTable behind the end of bytes that are no table: %d", e)
	}
	if _, _, e := unfold.GetTable([]byte{2, 0, 128}, 0); e != api.ErrTable {
		t.Errorf("GetTable of a Len 0 ahead of bytes that end too early: %d", e)
	}
}

func TestP1LongLists(t *testing.T) {
	b := append([]byte{4, 1}, bytes.Repeat([]byte{1, 1, 2, 1}, 1<<20)...)
	if l, to, e := unfold.GetTable(b, 0); e != api.ErrTable || to != 0 || len(l) != 0 {
		t.Errorf("GetTable of many spans: %d spans, %d, %d", len(l), to, e)
	}
	if n, to, e := unfold.GetNumber(bytes.Repeat([]byte{128}, 1<<22), 0); e != api.ErrNumber || n != 0 || to != 0 {
		t.Errorf("GetNumber of many bytes: %d, %d, %d", n, to, e)
	}
	l := slices.Repeat(spans(1, 1, 2, 1), 1<<20)
	if b, e := unfold.PutTable(l); e != api.ErrTable || len(b) != 0 {
		t.Errorf("PutTable of many spans: %d bytes, %d", len(b), e)
	}
	if v, e := unfold.At(l, 0); e != api.ErrTable || v != 0 {
		t.Errorf("At of many spans: %d, %d", v, e)
	}
	p := small()
	p.Funcs[2].Body[0].Args = make([]int, 1<<20)
	runs(t, p, []int{6}, 7, api.Done, 3, "")
	p.Funcs[0].Body[0].Args = make([]int, 1<<20)
	if e, f, s := unfold.Check(p); e != api.ErrOp || f != 0 || s != 0 {
		t.Errorf("Check with many Args: %d, %d, %d", e, f, s)
	}
	if _, e := unfold.Run(small(), make([]int, 1<<20), 1); e != api.ErrArg {
		t.Errorf("Run of many args: %d", e)
	}
}

// A list of nothing may be nil or empty.
func TestNothing(t *testing.T) {
	for _, b := range [][]byte{nil, {}, make([]byte, 0, 9)} {
		if _, _, e := unfold.GetNumber(b, 0); e != api.ErrShort {
			t.Errorf("GetNumber of nothing: %d", e)
		}
		if _, _, e := unfold.GetTable(b, 0); e != api.ErrShort {
			t.Errorf("GetTable of nothing: %d", e)
		}
	}
	for _, l := range [][]api.Span{nil, {}, make([]api.Span, 0, 9)} {
		if _, e := unfold.PutTable(l); e != api.ErrTable {
			t.Errorf("PutTable of nothing: %d", e)
		}
		if _, e := unfold.At(l, 0); e != api.ErrTable {
			t.Errorf("At of nothing: %d", e)
		}
	}
	for _, l := range [][]int{nil, {}, make([]int, 0, 9)} {
		runs(t, one(0, 1, ret(1, 0)), l, 1, api.Done, 0, "")
		// The Args of a Call of a function without parameters.
		p := one(0, 1, op(api.Jump, 1, 0, 2, 0), call(2, 0, 0, l...), ret(3, 0))
		runs(t, p, l, 2, api.Runs, 0, "f f 1, f f 2")
	}
	for _, l := range [][]api.Func{nil, {}, make([]api.Func, 0, 9)} {
		if e, f, s := unfold.Check(api.Program{Funcs: l}); e != api.ErrFuncs || f != 0 || s != 0 {
			t.Errorf("Check of nothing: %d, %d, %d", e, f, s)
		}
	}
}

func TestP2HandedIn(t *testing.T) {
	r := rand.New(rand.NewSource(3))
	for range 2000 {
		// What stands behind the list would be a good table's rest: reading it shows.
		room := append(drawnBytes(r), 1, 2, 1, 0, 7, 7, 7, 7)
		b, kept := room[:r.Intn(len(room))], slices.Clone(room)
		at := r.Intn(len(b) + 1)
		n, to, e := unfold.GetNumber(b, at)
		if n2, to2, e2 := unfold.GetNumber(slices.Clone(b), at); n != n2 || to != to2 || e != e2 {
			t.Fatalf("GetNumber(%v, %d) hangs on what stands behind", b, at)
		}
		l, to, e := unfold.GetTable(b, at)
		if l2, to2, e2 := unfold.GetTable(slices.Clone(b), at); !slices.Equal(l, l2) || to != to2 || e != e2 {
			t.Fatalf("GetTable(%v, %d) hangs on what stands behind", b, at)
		}
		if !bytes.Equal(room, kept) {
			t.Fatalf("%v has become %v", kept, room)
		}

		rows := append(drawnSpans(r), spans(7, 1, 8, 1, 9, 1)...)
		l, keptRows := rows[:r.Intn(len(rows))], slices.Clone(rows)
		unfold.PutTable(l)
		unfold.At(l, 1)
		if !slices.Equal(rows, keptRows) {
			t.Fatalf("%v has become %v", keptRows, rows)
		}
	}
}

// roomy is a program whose lists have spare room, and those lists with that room.
func roomy(p api.Program) (api.Program, []api.Func, [][]api.Op, [][]int) {
	var bodies [][]api.Op
	var args [][]int
	funcs := append(slices.Clone(p.Funcs), api.Func{Name: "room"}, api.Func{Name: "room"})
	for k := range p.Funcs {
		body := append(slices.Clone(p.Funcs[k].Body), op(9, 9, 9, 9, 9), op(9, 9, 9, 9, 9))
		for at := range len(body) - 2 {
			l := append(slices.Clone(body[at].Args), -9, -9)
			args = append(args, l)
			body[at].Args = l[:len(l)-2]
		}
		bodies = append(bodies, body)
		funcs[k].Body = body[:len(body)-2]
	}
	return api.Program{Funcs: funcs[:len(p.Funcs)]}, funcs, bodies, args
}

func TestP2ProgramsAreNotWrittenInto(t *testing.T) {
	r := rand.New(rand.NewSource(7))
	for range 2000 {
		drawn := spoilt(r)
		p, funcs, bodies, args := roomy(drawn)
		_, keptFuncs, keptBodies, keptArgs := roomy(drawn)
		room := append(drawnArgs(r, p), -9, -9)
		kept := slices.Clone(room)
		unfold.Check(p)
		unfold.Run(p, room[:len(room)-2], 2000)
		if !reflect.DeepEqual(funcs, keptFuncs) || !reflect.DeepEqual(bodies, keptBodies) || !reflect.DeepEqual(args, keptArgs) {
			t.Fatalf("%+v has become %+v", keptFuncs, funcs)
		}
		if !slices.Equal(room, kept) {
			t.Fatalf("%v has become %v", kept, room)
		}
	}
}

func TestP2RunIsFresh(t *testing.T) {
	for n := range 8 {
		p, args := small(), []int{6}
		first, _ := unfold.Run(p, args, n)
		second, _ := unfold.Run(p, args, n)
		want := slices.Clone(first.Frames)
		spoil(first.Frames, api.Frame{Func: "x", File: "y", Line: -1})
		third, _ := unfold.Run(p, args, n)
		p.Funcs[0] = api.Func{Name: "other"}
		p.Funcs[1].Body[0].Line = 99
		args[0] = 7
		if !slices.Equal(second.Frames, want) || !slices.Equal(third.Frames, want) {
			t.Errorf("Run(.., 6, %d): %v and %v, want %v", n, second.Frames, third.Frames, want)
		}
	}
}

// spoil writes into a list that came out, and into its spare room.
func spoil[T any](l []T, x T) {
	l = l[:cap(l)]
	for k := range l {
		l[k] = x
	}
}

func TestP2PutIsFresh(t *testing.T) {
	for _, n := range []int{0, 5, 127, 128, 300, api.MaxNumber} {
		first, _ := unfold.PutNumber(n)
		second, _ := unfold.PutNumber(n)
		want := slices.Clone(first)
		spoil(first, 99)
		third, _ := unfold.PutNumber(n)
		if !bytes.Equal(second, want) || !bytes.Equal(third, want) {
			t.Errorf("PutNumber(%d): %v and %v, want %v", n, second, third, want)
		}
	}
	for _, l := range [][]api.Span{spans(0, 5), spans(3, 1, 4, 1), stairs()} {
		kept := slices.Clone(l)
		first, _ := unfold.PutTable(l)
		second, _ := unfold.PutTable(l)
		want := slices.Clone(first)
		spoil(first, 99)
		third, _ := unfold.PutTable(l)
		if !bytes.Equal(second, want) || !bytes.Equal(third, want) || !slices.Equal(l, kept) {
			t.Errorf("PutTable(%v): %v and %v, want %v", kept, second, third, want)
		}
		spoil(l, api.Span{})
		if !bytes.Equal(third, want) {
			t.Errorf("PutTable(%v) hangs on its argument", kept)
		}
	}
}

func TestP2GetIsFresh(t *testing.T) {
	for _, want := range [][]api.Span{spans(0, 5), spans(3, 1, 4, 1), stairs()} {
		b, _ := unfold.PutTable(want)
		kept := slices.Clone(b)
		first, _, _ := unfold.GetTable(b, 0)
		second, _, _ := unfold.GetTable(b, 0)
		spoil(first, api.Span{Value: -1, Len: -1})
		third, _, _ := unfold.GetTable(b, 0)
		if !slices.Equal(second, want) || !slices.Equal(third, want) || !bytes.Equal(b, kept) {
			t.Errorf("GetTable(%v): %v and %v, want %v", kept, second, third, want)
		}
		spoil(b, 99)
		if !slices.Equal(third, want) {
			t.Errorf("GetTable(%v) hangs on its argument", kept)
		}
	}
}

// drawnBytes has bytes at the edges of numbers more often than others.
func drawnBytes(r *rand.Rand) []byte {
	edges := []byte{0, 1, 2, 7, 8, 127, 128, 255}
	b := make([]byte, r.Intn(12))
	for k := range b {
		b[k] = edges[r.Intn(len(edges))]
		if r.Intn(3) == 0 {
			b[k] = byte(r.Intn(256))
		}
	}
	return b
}

func drawnSpans(r *rand.Rand) []api.Span {
	l := make([]api.Span, r.Intn(5))
	for k := range l {
		l[k] = api.Span{Value: r.Intn(6), Len: 1 + r.Intn(6)}
		if r.Intn(6) == 0 {
			l[k].Value = numbers[r.Intn(len(numbers))]
		}
		if r.Intn(6) == 0 {
			l[k].Len = numbers[r.Intn(len(numbers))]
		}
	}
	return l
}
