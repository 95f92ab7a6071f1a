package unfold_test

import (
	"bytes"
	"testing"

	"unfold/api"
	"unfold/unfold"
)

const (
	most  = 1<<63 - 1
	least = -1 << 63
)

func TestP3PutNumber(t *testing.T) {
	for _, c := range []struct {
		n int
		b []byte
		e api.Errno
	}{
		{0, []byte{0}, api.OK},
		{1, []byte{1}, api.OK},
		{127, []byte{127}, api.OK},
		{128, []byte{128, 1}, api.OK},
		{300, []byte{172, 2}, api.OK},
		{1<<14 - 1, []byte{255, 127}, api.OK},
		{1 << 14, []byte{128, 128, 1}, api.OK},
		{1<<21 - 1, []byte{255, 255, 127}, api.OK},
		{1 << 21, []byte{128, 128, 128, 1}, api.OK},
		{1<<28 - 1, []byte{255, 255, 255, 127}, api.OK},
		{1 << 28, []byte{128, 128, 128, 128, 1}, api.OK},
		{api.MaxNumber - 1, []byte{254, 255, 255, 255, 7}, api.OK},
		{api.MaxNumber, []byte{255, 255, 255, 255, 7}, api.OK},
		{api.MaxNumber + 1, nil, api.ErrArg},
		{1 << 32, nil, api.ErrArg},
		{-1, nil, api.ErrArg},
		{most, nil, api.ErrArg},
		{least, nil, api.ErrArg},
	} {
		if b, e := unfold.PutNumber(c.n); e != c.e || !bytes.Equal(b, c.b) {
			t.Errorf("PutNumber(%d) = %v, %d, want %v, %d", c.n, b, e, c.b, c.e)
		}
	}
}

func TestP3GetNumber(t *testing.T) {
	for _, c := range []struct {
		b     []byte
		at    int
		n, to int
		e     api.Errno
	}{
		{[]byte{172, 2, 9}, 0, 300, 2, api.OK},
		{[]byte{172, 2, 9}, 1, 2, 2, api.OK},
		{[]byte{172, 2, 9}, 2, 9, 3, api.OK},
		{[]byte{0, 0}, 1, 0, 2, api.OK},
		{[]byte{128, 1}, 0, 128, 2, api.OK},
		{[]byte{255, 255, 255, 127}, 0, 1<<28 - 1, 4, api.OK},
		{[]byte{255, 255, 255, 255, 7}, 0, api.MaxNumber, 5, api.OK},
		{[]byte{9, 255, 255, 255, 255, 7, 255}, 1, api.MaxNumber, 6, api.OK},

		{[]byte{172, 2, 9}, 3, 0, 0, api.ErrShort},
		{nil, 0, 0, 0, api.ErrShort},
		{[]byte{}, 0, 0, 0, api.ErrShort},
		{[]byte{128, 128}, 0, 0, 0, api.ErrShort},
		{[]byte{255, 255, 255, 255}, 0, 0, 0, api.ErrShort},
		{[]byte{128, 128, 128, 128, 128}, 1, 0, 0, api.ErrShort},

		{[]byte{128, 0}, 0, 0, 0, api.ErrNumber},
		{[]byte{255, 0}, 0, 0, 0, api.ErrNumber},
		{[]byte{255, 255, 255, 255, 0}, 0, 0, 0, api.ErrNumber},
		{[]byte{255, 255, 255, 255, 8}, 0, 0, 0, api.ErrNumber},
		{[]byte{128, 128, 128, 128, 8}, 0, 0, 0, api.ErrNumber},
		{[]byte{128, 128, 128, 128, 16}, 0, 0, 0, api.ErrNumber},
		{[]byte{128, 128, 128, 128, 128}, 0, 0, 0, api.ErrNumber},
		{[]byte{128, 128, 128, 128, 128, 1}, 0, 0, 0, api.ErrNumber},

		{[]byte{172, 2, 9}, 4, 0, 0, api.ErrArg},
		{[]byte{172, 2, 9}, -1, 0, 0, api.ErrArg},
		{nil, 1, 0, 0, api.ErrArg},
		{nil, -1, 0, 0, api.ErrArg},
		{[]byte{1}, most, 0, 0, api.ErrArg},
		{[]byte{1}, least, 0, 0, api.ErrArg},
	} {
		if n, to, e := unfold.GetNumber(c.b, c.at); n != c.n || to != c.to || e != c.e {
			t.Errorf("GetNumber(%v, %d) = %d, %d, %d, want %d, %d, %d", c.b, c.at, n, to, e, c.n, c.to, c.e)
		}
	}
}

// The places around each width, and steps across the whole range.
func TestP3ThereAndBack(t *testing.T) {
	check := func(n int) {
		b, e := unfold.PutNumber(n)
		if e != api.OK {
			t.Fatalf("PutNumber(%d): %d", n, e)
		}
		b = append(append([]byte{255}, b...), 255)
		if got, to, e := unfold.GetNumber(b, 1); got != n || to != len(b)-1 || e != api.OK {
			t.Fatalf("GetNumber(%v, 1) = %d, %d, %d, want %d", b, got, to, e, n)
		}
	}
	for n := range 40000 {
		check(n)
	}
	for bit := range 31 {
		check(1 << bit)
		check(1<<bit - 1)
		check(api.MaxNumber - 1<<bit + 1)
	}
	for n := 0; n <= api.MaxNumber; n += 104729 {
		check(n)
	}
}

// toldNumber says what P3 says, by writing the number again.
func toldNumber(b []byte) (int, int, api.Errno) {
	n := 0
	for k := 0; k < 5; k++ {
		if k == len(b) {
			return 0, 0, api.ErrShort
		}
		n |= int(b[k]&127) << (7 * k)
		if b[k] >= 128 {
			continue
		}
		if again, e := unfold.PutNumber(n); e != api.OK || !bytes.Equal(again, b[:k+1]) {
			return 0, 0, api.ErrNumber
		}
		return n, k + 1, api.OK
	}
	return 0, 0, api.ErrNumber
}

// eachList calls f with every list of at most n bytes out of some.
func eachList(some []byte, n int, f func(b []byte)) {
	var grow func(b []byte)
	grow = func(b []byte) {
		f(b)
		if len(b) == n {
			return
		}
		for _, c := range some {
			grow(append(append([]byte{}, b...), c))
		}
	}
	grow(nil)
}

func TestP3AllShortLists(t *testing.T) {
	check := func(b []byte) {
		n, to, e := toldNumber(b)
		if gotN, gotTo, gotE := unfold.GetNumber(b, 0); gotN != n || gotTo != to || gotE != e {
			t.Fatalf("GetNumber(%v, 0) = %d, %d, %d, want %d, %d, %d", b, gotN, gotTo, gotE, n, to, e)
		}
	}
	eachList([]byte{0, 1, 7, 8, 127, 128, 129, 255}, 6, check)
	var all []byte
	for c := range 256 {
		all = append(all, byte(c))
	}
	eachList(all, 2, check)
}
