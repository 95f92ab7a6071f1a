// Package table: tables, lists of spans, and their bytes (P4).
package table

import (
	"unfold/api"
	"unfold/number"
)

// The first span's Value is written as if a span with this Value stood before it.
const beforeFirst = -1

// WellFormed tells whether a list of spans is a table.
func WellFormed(l []api.Span) bool {
	before := beforeFirst
	room := api.MaxCode
	for _, s := range l {
		if !isValue(s.Value) || s.Value == before {
			return false
		}
		// Held against what is left: a sum of Lens could overflow.
		if s.Len < 1 || s.Len > room {
			return false
		}
		before = s.Value
		room = room - s.Len
	}
	return len(l) > 0
}

func isValue(v int) bool {
	return v >= 0 && v <= api.MaxValue
}

// Put writes a table.
func Put(l []api.Span) ([]byte, api.Errno) {
	if !WellFormed(l) {
		return nil, api.ErrTable
	}
	return Bytes(l), api.OK
}

// Bytes writes a table of which the caller knows that it is well-formed.
func Bytes(l []api.Span) []byte {
	var b []byte
	before := beforeFirst
	for _, s := range l {
		step := number.FromSigned(s.Value - before)
		b = append(b, number.Bytes(step)...)
		b = append(b, number.Bytes(s.Len)...)
		before = s.Value
	}
	return append(b, 0)
}

// Get reads the table that begins at a place, and tells the place behind it.
func Get(b []byte, at int) ([]api.Span, int, api.Errno) {
	if at < 0 || at > len(b) {
		return nil, 0, api.ErrArg
	}
	var l []api.Span
	before := beforeFirst
	room := api.MaxCode
	// This ends, since each span takes at least one of the room.
	for {
		if len(l) > 0 && endsAt(b, at) {
			return l, at + 1, api.OK
		}
		s, to, e := getSpan(b, at, before, room)
		if e != api.OK {
			return nil, 0, e
		}
		l = append(l, s)
		at = to
		before = s.Value
		room = room - s.Len
	}
}

// endsAt tells whether the byte 0 stands at a place: no other bytes are the number 0.
func endsAt(b []byte, at int) bool {
	return at >= 0 && at < len(b) && b[at] == 0
}

// getSpan reads the span at a place, behind one with the Value before, where
// room pcs are left. A 0 in place of a signed number is no end here but a fault.
func getSpan(b []byte, at, before, room int) (api.Span, int, api.Errno) {
	step, behind, e := number.Get(b, at)
	if e != api.OK {
		return api.Span{}, 0, e
	}
	v := before + number.ToSigned(step)
	if step == 0 || !isValue(v) {
		return api.Span{}, 0, api.ErrTable
	}
	n, to, e := number.Get(b, behind)
	if e != api.OK {
		return api.Span{}, 0, e
	}
	if n == 0 || n > room {
		return api.Span{}, 0, api.ErrTable
	}
	return api.Span{Value: v, Len: n}, to, api.OK
}

// At looks a pc up.
func At(l []api.Span, pc int) (int, api.Errno) {
	if !WellFormed(l) {
		return 0, api.ErrTable
	}
	if pc < 0 {
		return 0, api.ErrArg
	}
	for _, s := range l {
		if pc < s.Len {
			return s.Value, api.OK
		}
		pc = pc - s.Len
	}
	return 0, api.ErrArg
}

// Pcs tells how many pcs a well-formed table has.
func Pcs(l []api.Span) int {
	n := 0
	for _, s := range l {
		n = n + s.Len
	}
	return n
}

// Values lists the Value of each pc of a well-formed table.
func Values(l []api.Span) []int {
	var values []int
	for _, s := range l {
		for k := 0; k < s.Len; k++ {
			values = append(values, s.Value)
		}
	}
	return values
}

// Of makes the table that has a Value at each pc.
func Of(values []int) []api.Span {
	var l []api.Span
	for _, v := range values {
		last := len(l) - 1
		if last >= 0 && l[last].Value == v {
			l[last].Len = l[last].Len + 1
		} else {
			l = append(l, api.Span{Value: v, Len: 1})
		}
	}
	return l
}
