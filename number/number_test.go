package number

import (
	"bytes"
	"testing"

	"unfold/api"
)

// P3: a signed number d is written as 2d or -2d - 1.
func TestSigned(t *testing.T) {
	for _, c := range []struct{ d, n int }{
		{0, 0}, {-1, 1}, {1, 2}, {-2, 3}, {2, 4}, {63, 126}, {-64, 127}, {64, 128}, {10000, 20000}, {-9999, 19997},
		{1<<30 - 1, 1<<31 - 2}, {-1 << 30, api.MaxNumber},
	} {
		if n := FromSigned(c.d); n != c.n {
			t.Errorf("FromSigned(%d) = %d, want %d", c.d, n, c.n)
		}
		if d := ToSigned(c.n); d != c.d {
			t.Errorf("ToSigned(%d) = %d, want %d", c.n, d, c.d)
		}
	}
	for d := -20000; d <= 20000; d++ {
		if back := ToSigned(FromSigned(d)); back != d {
			t.Fatalf("the signed number %d comes back as %d", d, back)
		}
	}
}

func TestBytesIsPut(t *testing.T) {
	for _, n := range []int{0, 127, 128, 16383, 16384, api.MaxNumber} {
		b, e := Put(n)
		if e != api.OK || !bytes.Equal(b, Bytes(n)) {
			t.Errorf("Put(%d) = %v, %d, but Bytes gives %v", n, b, e, Bytes(n))
		}
	}
}
