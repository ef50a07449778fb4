// Package wide is layer 2: see shared/doc/02-wide.md.
package wide

import "math/bits"

// Wide is a whole number below 2^128.
type Wide struct {
	Hi uint64
	Lo uint64
}

// Mul is a product.
func Mul(a, b uint64) Wide {
	hi, lo := bits.Mul64(a, b)
	return Wide{Hi: hi, Lo: lo}
}

// Add is a sum, and whether it went beyond 2^128.
func (a Wide) Add(b Wide) (Wide, bool) {
	lo, carry := bits.Add64(a.Lo, b.Lo, 0)
	hi, carry := bits.Add64(a.Hi, b.Hi, carry)
	return Wide{Hi: hi, Lo: lo}, carry != 0
}

// Sub is a difference, and whether it went beneath 0.
func (a Wide) Sub(b Wide) (Wide, bool) {
	lo, borrow := bits.Sub64(a.Lo, b.Lo, 0)
	hi, borrow := bits.Sub64(a.Hi, b.Hi, borrow)
	return Wide{Hi: hi, Lo: lo}, borrow != 0
}

// Cmp is -1, 0 or 1.
func (a Wide) Cmp(b Wide) int {
	switch {
	case a == b:
		return 0
	case a.Hi < b.Hi || a.Hi == b.Hi && a.Lo < b.Lo:
		return -1
	}
	return 1
}

// Zero tells whether it is 0.
func (a Wide) Zero() bool { return a == Wide{} }

// Len is how many bits it has.
func (a Wide) Len() int {
	if a.Hi != 0 {
		return 64 + bits.Len64(a.Hi)
	}
	return bits.Len64(a.Lo)
}

// Left is a number times 2^n, modulo 2^128; Right divided by 2^n, rounded down, and whether something fell out.
func (a Wide) Left(n int) Wide {
	switch {
	case n <= 0:
		return a
	case n < 64:
		return Wide{Hi: a.Hi<<n | a.Lo>>(64-n), Lo: a.Lo << n}
	}
	return Wide{Hi: a.Lo << (n - 64)}
}

// Right is a number divided by 2^n, rounded down, and whether something fell out.
func (a Wide) Right(n int) (Wide, bool) {
	w := a.rightDown(n)
	// What fell out doesn't come back.
	return w, w.Left(n) != a
}

func (a Wide) rightDown(n int) Wide {
	switch {
	case n <= 0:
		return a
	case n < 64:
		return Wide{Hi: a.Hi >> n, Lo: a.Lo>>n | a.Hi<<(64-n)}
	}
	return Wide{Lo: a.Hi >> (n - 64)}
}

// Div is a quotient, rounded down, and what is left; of a divisor above the upper half.
func (a Wide) Div(b uint64) (uint64, uint64, bool) {
	// bits.Div64 panics where the quotient has more than 64 bits, or b is 0.
	if a.Hi >= b {
		return 0, 0, false
	}
	q, r := bits.Div64(a.Hi, a.Lo, b)
	return q, r, true
}

// Sqrt is the square root, rounded down, and whether it is exact.
func (a Wide) Sqrt() (uint64, bool) {
	var root uint64
	// The root of a number of k bits has half as many, rounded up: no higher bit needs a try.
	for i := (a.Len()+1)/2 - 1; i >= 0; i-- {
		try := root | 1<<i
		if Mul(try, try).Cmp(a) <= 0 {
			root = try
		}
	}
	return root, Mul(root, root) == a
}
