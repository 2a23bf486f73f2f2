// Package wide: products that don't go round (chapter 1).
package wide

import (
	"cmp"
	"math"
	"math/bits"

	"trimtab/api"
)

// Wide is a number from 0 to 2^128 - 1: High times 2^64, and Low.
type Wide struct{ High, Low uint64 }

// Of is the product of two numbers.
func Of(a, b uint64) Wide {
	high, low := bits.Mul64(a, b)
	return Wide{High: high, Low: low}
}

// Cmp is -1, 0 or 1: w is less than o, as much as o, or greater.
func (w Wide) Cmp(o Wide) int {
	if c := cmp.Compare(w.High, o.High); c != 0 {
		return c
	}
	return cmp.Compare(w.Low, o.Low)
}

// Add is the sum modulo 2^128, and whether it went beyond.
func (w Wide) Add(o Wide) (Wide, bool) {
	low, carry := bits.Add64(w.Low, o.Low, 0)
	high, beyond := bits.Add64(w.High, o.High, carry)
	return Wide{High: high, Low: low}, beyond == 1
}

// Div is the quotient and the rest. ErrZero: by 0.
func (w Wide) Div(by uint64) (Wide, uint64, api.Errno) {
	if by == 0 {
		return Wide{}, 0, api.ErrZero
	}
	// The high half goes first: its rest is less than by, which is what
	// bits.Div64 needs so as not to panic.
	high, rest := w.High/by, w.High%by
	low, rest := bits.Div64(rest, w.Low, by)
	return Wide{High: high, Low: low}, rest, api.OK
}

// MulDiv is a times b, divided by the third number, rounded down, or up.
// ErrZero: by 0. ErrOver: the rounded answer is beyond 64 bits.
func MulDiv(a, b, by uint64, up bool) (uint64, api.Errno) {
	quotient, rest, e := Of(a, b).Div(by)
	if e != api.OK {
		return 0, e
	}
	if quotient.High != 0 {
		return 0, api.ErrOver
	}
	if !up || rest == 0 {
		return quotient.Low, api.OK
	}
	if quotient.Low == math.MaxUint64 {
		return 0, api.ErrOver
	}
	return quotient.Low + 1, api.OK
}

// Ratio is -1, 0 or 1: a/b is less than c/d, as much, or greater.
// ErrZero: b or d is 0.
func Ratio(a, b, c, d uint64) (int, api.Errno) {
	if b == 0 || d == 0 {
		return 0, api.ErrZero
	}
	return Of(a, d).Cmp(Of(c, b)), api.OK
}
