// Package number: the bytes of numbers (P3).
package number

import "unfold/api"

const (
	base = 128 // one group of seven bits; added to each byte but the last

	maxBytes = 5

	// A last byte above this, in the greatest width, tells of more than MaxNumber.
	maxTop = api.MaxNumber >> (7 * (maxBytes - 1))
)

// Put writes a number.
func Put(n int) ([]byte, api.Errno) {
	if n < 0 || n > api.MaxNumber {
		return nil, api.ErrArg
	}
	return Bytes(n), api.OK
}

// Bytes writes a number of which the caller knows that it is 0 to MaxNumber.
func Bytes(n int) []byte {
	var b []byte
	for n >= base {
		b = append(b, byte(n%base+base))
		n = n / base
	}
	return append(b, byte(n))
}

// Get reads the number that begins at a place, and tells the place behind it.
func Get(b []byte, at int) (int, int, api.Errno) {
	if at < 0 || at > len(b) {
		return 0, 0, api.ErrArg
	}
	rest := b[at:]
	size, e := width(rest)
	if e != api.OK {
		return 0, 0, e
	}
	own := rest[:size]
	if !canonical(own) {
		return 0, 0, api.ErrNumber
	}
	return value(own), at + size, api.OK
}

// width tells how many bytes stand at the head of b, up to the first one below 128.
func width(b []byte) (int, api.Errno) {
	for k := 0; k < maxBytes; k++ {
		if k >= len(b) {
			return 0, api.ErrShort
		}
		if b[k] < base {
			return k + 1, api.OK
		}
	}
	return 0, api.ErrNumber
}

// canonical tells whether Put could have written b. It looks at the last byte
// alone, so that no number above MaxNumber is ever made, however wide an int is.
func canonical(b []byte) bool {
	if len(b) == 0 {
		return false
	}
	last := b[len(b)-1]
	if len(b) > 1 && last == 0 {
		return false
	}
	return len(b) < maxBytes || last <= maxTop
}

// value puts the groups of seven bits together.
func value(b []byte) int {
	n := 0
	for k := len(b) - 1; k >= 0; k-- {
		n = n*base + int(b[k]%base)
	}
	return n
}

// FromSigned tells the number as which the signed number d is written.
func FromSigned(d int) int {
	if d >= 0 {
		return 2 * d
	}
	return -2*d - 1
}

// ToSigned tells the signed number that is written as the number n.
func ToSigned(n int) int {
	if n%2 == 0 {
		return n / 2
	}
	return -(n / 2) - 1
}
