package unfold_test

import (
	"bytes"
	"math/rand"
	"slices"
	"testing"

	"unfold/api"
	"unfold/unfold"
)

// spans makes a list out of Value, Len, Value, Len and so on.
func spans(numbers ...int) []api.Span {
	var l []api.Span
	for k := 0; k+1 < len(numbers); k += 2 {
		l = append(l, api.Span{Value: numbers[k], Len: numbers[k+1]})
	}
	return l
}

// stairs is a table with as many spans as there may be.
func stairs() []api.Span {
	var l []api.Span
	for k := range api.MaxCode {
		l = append(l, api.Span{Value: k % 2 * api.MaxValue, Len: 1})
	}
	return l
}

func TestP4PutAndGetTable(t *testing.T) {
	for _, c := range []struct {
		l []api.Span
		b []byte
	}{
		{spans(3, 1, 4, 1), []byte{8, 1, 2, 1, 0}},
		{spans(0, 5), []byte{2, 5, 0}},
		{spans(7, 2, 2, 300), []byte{16, 2, 9, 172, 2, 0}},
		{spans(api.MaxValue, api.MaxCode), []byte{160, 156, 1, 232, 7, 0}},
		{spans(0, 999, api.MaxValue, 1), []byte{2, 231, 7, 158, 156, 1, 1, 0}},
		{spans(api.MaxValue, 1, 0, 999), []byte{160, 156, 1, 1, 157, 156, 1, 231, 7, 0}},
		{spans(1, 1, 0, 1, 1, 1), []byte{4, 1, 1, 1, 2, 1, 0}},
	} {
		if b, e := unfold.PutTable(c.l); e != api.OK || !bytes.Equal(b, c.b) {
			t.Errorf("PutTable(%v) = %v, %d, want %v", c.l, b, e, c.b)
		}
		for _, behind := range [][]byte{nil, {0}, {4, 1, 0}, {255}} {
			b := append(append([]byte{255, 0, 3}, c.b...), behind...)
			if l, to, e := unfold.GetTable(b, 3); e != api.OK || to != 3+len(c.b) || !slices.Equal(l, c.l) {
				t.Errorf("GetTable(%v, 3) = %v, %d, %d, want %v", b, l, to, e, c.l)
			}
		}
		for k := range c.b {
			if l, to, e := unfold.GetTable(c.b[:k], 0); e != api.ErrShort || to != 0 || len(l) != 0 {
				t.Errorf("GetTable(%v, 0) = %v, %d, %d, want ErrShort", c.b[:k], l, to, e)
			}
		}
	}
}

func TestP4MostSpans(t *testing.T) {
	l := stairs()
	b, e := unfold.PutTable(l)
	if e != api.OK {
		t.Fatalf("PutTable of MaxCode spans: %d", e)
	}
	if got, to, e := unfold.GetTable(b, 0); e != api.OK || to != len(b) || !slices.Equal(got, l) {
		t.Errorf("GetTable of MaxCode spans: %d spans, %d, %d", len(got), to, e)
	}
	b = append(b[:len(b)-1], 1, 1, 0)
	if got, to, e := unfold.GetTable(b, 0); e != api.ErrTable || to != 0 || len(got) != 0 {
		t.Errorf("GetTable of MaxCode + 1 spans: %d spans, %d, %d", len(got), to, e)
	}
	if v, e := unfold.At(l, api.MaxCode-1); v != api.MaxValue || e != api.OK {
		t.Errorf("At of the last pc = %d, %d", v, e)
	}
	if v, e := unfold.At(l, api.MaxCode); v != 0 || e != api.ErrArg {
		t.Errorf("At behind the last pc = %d, %d", v, e)
	}
}

func TestP4NotWellFormed(t *testing.T) {
	for _, l := range [][]api.Span{
		nil, {},
		spans(0, 0), spans(0, -1), spans(0, least), spans(-1, 1), spans(api.MaxValue+1, 1), spans(most, 1), spans(least, 1),
		spans(1, 1, 1, 1), spans(0, 1, 2, 1, 2, 1),
		spans(1, api.MaxCode+1), spans(1, api.MaxCode, 2, 1), spans(1, 500, 2, 501), spans(1, most, 2, most, 1, 3), spans(1, -5, 2, 7), spans(1, 7, 2, -5),
		append(stairs(), api.Span{Value: 0, Len: 1}),
	} {
		if b, e := unfold.PutTable(l); e != api.ErrTable || len(b) != 0 {
			t.Errorf("PutTable(%v) = %v, %d", l, b, e)
		}
		for _, pc := range []int{0, -1, 2000, most, least} {
			if v, e := unfold.At(l, pc); e != api.ErrTable || v != 0 {
				t.Errorf("At(%v, %d) = %d, %d", l, pc, v, e)
			}
		}
	}
}

func TestP4GetTableWrong(t *testing.T) {
	for _, c := range []struct {
		why string
		b   []byte
		at  int
		e   api.Errno
	}{
		{"a place below 0", []byte{2, 5, 0}, -1, api.ErrArg},
		{"a place behind the end", []byte{2, 5, 0}, 4, api.ErrArg},
		{"the greatest place", []byte{2, 5, 0}, most, api.ErrArg},
		{"the least place", []byte{2, 5, 0}, least, api.ErrArg},
		{"no list", nil, 1, api.ErrArg},
		{"the end", []byte{2, 5, 0}, 3, api.ErrShort},
		{"no byte", nil, 0, api.ErrShort},
		{"no Len", []byte{2}, 0, api.ErrShort},
		{"a Len that is cut off", []byte{2, 133}, 0, api.ErrShort},
		{"no end", []byte{2, 5}, 0, api.ErrShort},
		{"a signed number that is cut off", []byte{2, 5, 130}, 0, api.ErrShort},
		{"no span", []byte{0}, 0, api.ErrTable},
		{"no span, and more behind it", []byte{0, 2, 5, 0}, 0, api.ErrTable},
		{"the Value -2", []byte{1, 1, 0}, 0, api.ErrTable},
		{"the Value -2, told ahead of no Len", []byte{1}, 0, api.ErrTable},
		{"the Value -2, told ahead of a Len that is no number", []byte{1, 128, 0}, 0, api.ErrTable},
		{"the Value MaxValue + 1", []byte{162, 156, 1, 1, 0}, 0, api.ErrTable},
		{"a later Value -1", []byte{2, 1, 1, 1, 0}, 0, api.ErrTable},
		{"a later Value MaxValue + 1", []byte{160, 156, 1, 1, 2, 1, 0}, 0, api.ErrTable},
		{"the greatest signed number", []byte{254, 255, 255, 255, 7, 1, 0}, 0, api.ErrTable},
		{"the least signed number", []byte{255, 255, 255, 255, 7, 1, 0}, 0, api.ErrTable},
		{"a Len 0", []byte{2, 0, 0}, 0, api.ErrTable},
		{"a later Len 0", []byte{2, 1, 2, 0, 0}, 0, api.ErrTable},
		{"a Len MaxCode + 1", []byte{2, 233, 7, 0}, 0, api.ErrTable},
		{"a Len MaxCode + 1, told ahead of the end", []byte{2, 233, 7}, 0, api.ErrTable},
		{"Lens of MaxCode + 1 together", []byte{2, 1, 4, 232, 7, 0}, 0, api.ErrTable},
		{"the greatest Len", []byte{2, 1, 2, 255, 255, 255, 255, 7, 0}, 0, api.ErrTable},
		{"a signed number that is none", []byte{130, 0, 1, 0}, 0, api.ErrNumber},
		{"a 0 of two bytes in front", []byte{128, 0}, 0, api.ErrNumber},
		{"a 0 of two bytes at the end", []byte{2, 5, 128, 0}, 0, api.ErrNumber},
		{"a Len that is none", []byte{2, 128, 0, 0}, 0, api.ErrNumber},
		{"a Len above MaxNumber", []byte{2, 255, 255, 255, 255, 8, 0}, 0, api.ErrNumber},
		{"a Len without end", []byte{2, 255, 255, 255, 255, 255}, 0, api.ErrNumber},
	} {
		if l, to, e := unfold.GetTable(c.b, c.at); e != c.e || to != 0 || len(l) != 0 {
			t.Errorf("%s: GetTable(%v, %d) = %v, %d, %d, want %d", c.why, c.b, c.at, l, to, e, c.e)
		}
	}
}

// toldTable says what P4 says of bytes, number by number.
func toldTable(b []byte) ([]api.Span, int, api.Errno) {
	var l []api.Span
	value, pcs, at := -1, 0, 0
	for turn := 0; ; turn++ {
		n, to, e := unfold.GetNumber(b, at)
		switch {
		case e != api.OK:
			return nil, 0, e
		case turn%2 == 0 && n == 0 && len(l) == 0:
			return nil, 0, api.ErrTable
		case turn%2 == 0 && n == 0:
			return l, to, api.OK
		case turn%2 == 0 && n%2 == 0:
			value += n / 2
		case turn%2 == 0:
			value -= (n + 1) / 2
		default:
			pcs += n
			l = append(l, api.Span{Value: value, Len: n})
		}
		if value < 0 || value > 9999 || pcs > 1000 || turn%2 == 1 && n == 0 {
			return nil, 0, api.ErrTable
		}
		at = to
	}
}

func TestP4AllShortLists(t *testing.T) {
	eachList([]byte{0, 1, 2, 3, 7, 128, 156, 255}, 6, func(b []byte) {
		l, to, e := toldTable(b)
		gotL, gotTo, gotE := unfold.GetTable(b, 0)
		if !slices.Equal(gotL, l) || gotTo != to || gotE != e {
			t.Fatalf("GetTable(%v, 0) = %v, %d, %d, want %v, %d, %d", b, gotL, gotTo, gotE, l, to, e)
		}
		if e != api.OK {
			return
		}
		if again, e := unfold.PutTable(l); e != api.OK || !bytes.Equal(again, b[:to]) {
			t.Fatalf("PutTable(%v) = %v, %d, want %v", l, again, e, b[:to])
		}
	})
}

// Well-formed tables with one byte changed: the answers lie close to the edges.
func TestP4ChangedBytes(t *testing.T) {
	r := rand.New(rand.NewSource(4))
	for range 20000 {
		var l []api.Span
		for n := 1 + r.Intn(4); n > 0; n-- {
			l = append(l, api.Span{Value: r.Intn(api.MaxValue + 1), Len: 1 + r.Intn(250)})
		}
		b, e := unfold.PutTable(l)
		if e != api.OK {
			continue
		}
		b[r.Intn(len(b))] = byte(r.Intn(256))
		want, to, e := toldTable(b)
		got, gotTo, gotE := unfold.GetTable(b, 0)
		if !slices.Equal(got, want) || gotTo != to || gotE != e {
			t.Fatalf("GetTable(%v, 0) = %v, %d, %d, want %v, %d, %d", b, got, gotTo, gotE, want, to, e)
		}
	}
}

func TestP4At(t *testing.T) {
	l := spans(3, 1, 4, 2, 0, 1, api.MaxValue, 3)
	for pc, want := range []int{3, 4, 4, 0, api.MaxValue, api.MaxValue, api.MaxValue} {
		if v, e := unfold.At(l, pc); v != want || e != api.OK {
			t.Errorf("At(%v, %d) = %d, %d, want %d", l, pc, v, e, want)
		}
	}
	for _, pc := range []int{-1, 7, 8, api.MaxCode, most, least} {
		if v, e := unfold.At(l, pc); v != 0 || e != api.ErrArg {
			t.Errorf("At(%v, %d) = %d, %d, want ErrArg", l, pc, v, e)
		}
	}
	if v, e := unfold.At(spans(7, api.MaxCode), api.MaxCode-1); v != 7 || e != api.OK {
		t.Errorf("At of the last of MaxCode pcs = %d, %d", v, e)
	}
}
