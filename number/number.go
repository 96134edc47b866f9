// Package number is layer 1: see shared/doc/01-number.md.
package number

import (
	"math"

	"longcase/api"
)

// Numbers that may not fit (A1, A2).

// Add holds the sum against a: a sum that wrapped round lies on the wrong side of it.
func Add(a, b int64) (int64, bool) {
	sum := a + b
	if (sum >= a) != (b >= 0) {
		return 0, false
	}
	return sum, true
}

// Mul divides the product again: one that wrapped round does not lead back to a.
func Mul(a, b int64) (int64, bool) {
	if b == 0 {
		return 0, true
	}
	// The least number by -1 wraps round both ways, and so would lead back.
	if a == math.MinInt64 && b == -1 {
		return 0, false
	}
	product := a * b
	if product/b != a {
		return 0, false
	}
	return product, true
}

// Div mends the language's quotient, which is rounded towards 0.
func Div(a, b int64) (int64, int64, bool) {
	if b < 1 {
		return 0, 0, false
	}
	quotient, left := a/b, a%b
	if left < 0 {
		quotient--
		left += b
	}
	return quotient, left, true
}

// Seconds looks at the range ahead of the conversion: what that makes of a float that does not fit is the machine's choice.
func Seconds(f float64) (int64, api.Errno) {
	// The greatest int64 is no float, so the bound is the first number above it.
	const bound = 1 << 63
	if math.IsNaN(f) || math.IsInf(f, 0) {
		return 0, api.ErrNumber
	}
	whole := math.Floor(f)
	if whole < -bound || whole >= bound {
		return 0, api.ErrRange
	}
	return int64(whole), api.OK
}

// Float asks Seconds for the way back, since the nearest float may lie above every int64.
func Float(n int64) (float64, bool) {
	f := float64(n)
	back, err := Seconds(f)
	return f, err == api.OK && back == n
}

// Order can't lean on comparison alone: that holds the two noughts for the same, and what is no number for unlike all.
func Order(a, b float64) int {
	place := func(nought float64) int {
		if math.Signbit(nought) {
			return 0
		}
		return 1
	}
	strangeA, strangeB := math.IsNaN(a), math.IsNaN(b)
	switch {
	case strangeA && strangeB:
		return 0
	case strangeB || a < b:
		return -1
	case strangeA || a > b:
		return 1
	case a == 0:
		return place(a) - place(b)
	}
	return 0
}
