package unfold_test

import (
	"bytes"
	"math/rand"
	"slices"
	"testing"

	"unfold/api"
	"unfold/unfold"
)

// numbers are those at which a sum, a place or a size may go wrong.
var numbers = []int{least, least + 1, -1 << 32, -1 << 31, -1001, -1, 0, 1, 2, 5, 999, 1000, 1001, 9998, 9999, 10000, 1<<31 - 1, 1 << 31, 1 << 32, most - 1, most}

func TestP1NumbersAtAllInputs(t *testing.T) {
	for _, n := range numbers {
		if b, e := unfold.PutNumber(n); e != api.OK && len(b) != 0 || e == api.OK && len(b) == 0 {
			t.Errorf("PutNumber(%d) = %v, %d", n, b, e)
		}
	}
	r := rand.New(rand.NewSource(1))
	for range 5000 {
		b := drawnBytes(r)
		for _, at := range append(numbers, len(b)-1, len(b), len(b)+1) {
			n, to, e := unfold.GetNumber(b, at)
			if e != api.OK && (n != 0 || to != 0) {
				t.Fatalf("GetNumber(%v, %d) = %d, %d beside the error %d", b, at, n, to, e)
			}
			if e == api.OK && (n < 0 || n > api.MaxNumber || to <= at || to > len(b)) {
				t.Fatalf("GetNumber(%v, %d) = %d, %d", b, at, n, to)
			}
		}
	}
}

func TestP1TablesAtAllInputs(t *testing.T) {
	r := rand.New(rand.NewSource(2))
	for range 5000 {
		b := drawnBytes(r)
		for _, at := range append(numbers, len(b)-1, len(b), len(b)+1) {
			l, to, e := unfold.GetTable(b, at)
			if e != api.OK && (len(l) != 0 || to != 0) {
				t.Fatalf("GetTable(%v, %d) = %v, %d beside the error %d", b, at, l, to, e)
			}
			if e == api.OK && (len(l) == 0 || to <= at || to > len(b)) {
				t.Fatalf("GetTable(%v, %d) = %v, %d", b, at, l, to)
			}
		}
		l := drawnSpans(r)
		if b, e := unfold.PutTable(l); e != api.OK && len(b) != 0 {
			t.Fatalf("PutTable(%v) = %v beside the error %d", l, b, e)
		}
		for _, pc := range numbers {
			if v, e := unfold.At(l, pc); e != api.OK && v != 0 {
				t.Fatalf("At(%v, %d) = %d beside the error %d", l, pc, v, e)
			}
		}
	}
}

// Where two errors apply, the first that is named is the answer.
func TestP1FirstError(t *testing.T) {
	if _, e := unfold.At(spans(1, 0), -1); e != api.ErrTable {
		t.Errorf("At of no table and no pc: %d", e)
	}
	if _, _, e := unfold.GetNumber([]byte{128}, 2); e != api.ErrArg {
		t.Errorf("GetNumber behind the end of bytes that end too early: %d", e)
	}
	if _, _, e := unfold.GetTable([]byte{0}, 2); e != api.ErrArg {
		t.Errorf("GetTable behind the end of bytes that are no table: %d", e)
	}
	if _, _, e := unfold.GetTable([]byte{2, 0, 128}, 0); e != api.ErrTable {
		t.Errorf("GetTable of a Len 0 ahead of bytes that end too early: %d", e)
	}
}

func TestP1LongLists(t *testing.T) {
	b := append([]byte{4, 1}, bytes.Repeat([]byte{1, 1, 2, 1}, 1<<20)...)
	if l, to, e := unfold.GetTable(b, 0); e != api.ErrTable || to != 0 || len(l) != 0 {
		t.Errorf("GetTable of many spans: %d spans, %d, %d", len(l), to, e)
	}
	if n, to, e := unfold.GetNumber(bytes.Repeat([]byte{128}, 1<<22), 0); e != api.ErrNumber || n != 0 || to != 0 {
		t.Errorf("GetNumber of many bytes: %d, %d, %d", n, to, e)
	}
	l := slices.Repeat(spans(1, 1, 2, 1), 1<<20)
	if b, e := unfold.PutTable(l); e != api.ErrTable || len(b) != 0 {
		t.Errorf("PutTable of many spans: %d bytes, %d", len(b), e)
	}
	if v, e := unfold.At(l, 0); e != api.ErrTable || v != 0 {
		t.Errorf("At of many spans: %d, %d", v, e)
	}
}

// A list of nothing may be nil or empty.
func TestNothing(t *testing.T) {
	for _, b := range [][]byte{nil, {}, make([]byte, 0, 9)} {
		if _, _, e := unfold.GetNumber(b, 0); e != api.ErrShort {
			t.Errorf("GetNumber of nothing: %d", e)
		}
		if _, _, e := unfold.GetTable(b, 0); e != api.ErrShort {
			t.Errorf("GetTable of nothing: %d", e)
		}
	}
	for _, l := range [][]api.Span{nil, {}, make([]api.Span, 0, 9)} {
		if _, e := unfold.PutTable(l); e != api.ErrTable {
			t.Errorf("PutTable of nothing: %d", e)
		}
		if _, e := unfold.At(l, 0); e != api.ErrTable {
			t.Errorf("At of nothing: %d", e)
		}
	}
}

func TestP2HandedIn(t *testing.T) {
	r := rand.New(rand.NewSource(3))
	for range 2000 {
		// What stands behind the list would be a good table's rest: reading it shows.
		room := append(drawnBytes(r), 1, 2, 1, 0, 7, 7, 7, 7)
		b, kept := room[:r.Intn(len(room))], slices.Clone(room)
		at := r.Intn(len(b) + 1)
		n, to, e := unfold.GetNumber(b, at)
		if n2, to2, e2 := unfold.GetNumber(slices.Clone(b), at); n != n2 || to != to2 || e != e2 {
			t.Fatalf("GetNumber(%v, %d) hangs on what stands behind", b, at)
		}
		l, to, e := unfold.GetTable(b, at)
		if l2, to2, e2 := unfold.GetTable(slices.Clone(b), at); !slices.Equal(l, l2) || to != to2 || e != e2 {
			t.Fatalf("GetTable(%v, %d) hangs on what stands behind", b, at)
		}
		if !bytes.Equal(room, kept) {
			t.Fatalf("%v has become %v", kept, room)
		}

		rows := append(drawnSpans(r), spans(7, 1, 8, 1, 9, 1)...)
		l, keptRows := rows[:r.Intn(len(rows))], slices.Clone(rows)
		unfold.PutTable(l)
		unfold.At(l, 1)
		if !slices.Equal(rows, keptRows) {
			t.Fatalf("%v has become %v", keptRows, rows)
		}
	}
}

// spoil writes into a list that came out, and into its spare room.
func spoil[T any](l []T, x T) {
	l = l[:cap(l)]
	for k := range l {
		l[k] = x
	}
}

func TestP2PutIsFresh(t *testing.T) {
	for _, n := range []int{0, 5, 127, 128, 300, api.MaxNumber} {
		first, _ := unfold.PutNumber(n)
		second, _ := unfold.PutNumber(n)
		want := slices.Clone(first)
		spoil(first, 99)
		third, _ := unfold.PutNumber(n)
		if !bytes.Equal(second, want) || !bytes.Equal(third, want) {
			t.Errorf("PutNumber(%d): %v and %v, want %v", n, second, third, want)
		}
	}
	for _, l := range [][]api.Span{spans(0, 5), spans(3, 1, 4, 1), stairs()} {
		kept := slices.Clone(l)
		first, _ := unfold.PutTable(l)
		second, _ := unfold.PutTable(l)
		want := slices.Clone(first)
		spoil(first, 99)
		third, _ := unfold.PutTable(l)
		if !bytes.Equal(second, want) || !bytes.Equal(third, want) || !slices.Equal(l, kept) {
			t.Errorf("PutTable(%v): %v and %v, want %v", kept, second, third, want)
		}
		spoil(l, api.Span{})
		if !bytes.Equal(third, want) {
			t.Errorf("PutTable(%v) hangs on its argument", kept)
		}
	}
}

func TestP2GetIsFresh(t *testing.T) {
	for _, want := range [][]api.Span{spans(0, 5), spans(3, 1, 4, 1), stairs()} {
		b, _ := unfold.PutTable(want)
		kept := slices.Clone(b)
		first, _, _ := unfold.GetTable(b, 0)
		second, _, _ := unfold.GetTable(b, 0)
		spoil(first, api.Span{Value: -1, Len: -1})
		third, _, _ := unfold.GetTable(b, 0)
		if !slices.Equal(second, want) || !slices.Equal(third, want) || !bytes.Equal(b, kept) {
			t.Errorf("GetTable(%v): %v and %v, want %v", kept, second, third, want)
		}
		spoil(b, 99)
		if !slices.Equal(third, want) {
			t.Errorf("GetTable(%v) hangs on its argument", kept)
		}
	}
}

// drawnBytes has bytes at the edges of numbers more often than others.
func drawnBytes(r *rand.Rand) []byte {
	edges := []byte{0, 1, 2, 7, 8, 127, 128, 255}
	b := make([]byte, r.Intn(12))
	for k := range b {
		b[k] = edges[r.Intn(len(edges))]
		if r.Intn(3) == 0 {
			b[k] = byte(r.Intn(256))
		}
	}
	return b
}

func drawnSpans(r *rand.Rand) []api.Span {
	l := make([]api.Span, r.Intn(5))
	for k := range l {
		l[k] = api.Span{Value: r.Intn(6), Len: 1 + r.Intn(6)}
		if r.Intn(6) == 0 {
			l[k].Value = numbers[r.Intn(len(numbers))]
		}
		if r.Intn(6) == 0 {
			l[k].Len = numbers[r.Intn(len(numbers))]
		}
	}
	return l
}
