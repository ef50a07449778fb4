// Package word is layer 1: see shared/doc/01-word.md.
package word

import "math"

// What a pattern stands for.
const (
	Zero = iota + 1
	Sub
	Normal
	Inf
	Nan
)

// Some patterns.
const (
	One    uint64 = 0x3ff0000000000000
	PosInf uint64 = 0x7ff0000000000000
	NegInf uint64 = 0xfff0000000000000
	Quiet  uint64 = 0x7ff8000000000000
	Most   uint64 = 0x7fefffffffffffff // the greatest number
	Least  uint64 = 1                  // the least above 0
	Small  uint64 = 0x0010000000000000 // the least normal one
	Minus0 uint64 = 1 << 63
)

// Where the parts of a pattern stand.
const (
	signBit  uint64 = 1 << 63
	quietBit uint64 = 1 << 51
	fracBits        = 52
	fracMask uint64 = 1<<fracBits - 1
	expMask         = 1<<11 - 1
	hidden   uint64 = 1 << fracBits // what a Normal number has above its fraction
	bias            = 1075
	leastExp        = -1074
)

// Neg tells whether a pattern's sign is set.
func Neg(b uint64) bool { return b&signBit != 0 }

// Exp is a pattern's exponent as it stands, Frac its fraction.
func Exp(b uint64) int { return int(b >> fracBits & expMask) }

// Frac is a pattern's fraction.
func Frac(b uint64) uint64 { return b & fracMask }

// Make is the pattern of a sign, an exponent and a fraction: their lowest bits.
func Make(neg bool, exp int, frac uint64) uint64 {
	b := uint64(exp&expMask)<<fracBits | frac&fracMask
	if neg {
		b |= signBit
	}
	return b
}

// Kind is what a pattern stands for.
func Kind(b uint64) int {
	exp, frac := Exp(b), Frac(b)
	switch {
	case exp == 0 && frac == 0:
		return Zero
	case exp == 0:
		return Sub
	case exp < expMask:
		return Normal
	case frac == 0:
		return Inf
	}
	return Nan
}

// Finite tells whether a pattern is a number.
func Finite(b uint64) bool { return Exp(b) != expMask }

// Signals tells whether a pattern is no number, and says so.
func Signals(b uint64) bool { return Kind(b) == Nan && b&quietBit == 0 }

// Parts is a number as a whole number, below 2^53, times a power of two; of what is none 0 and 0.
func Parts(b uint64) (uint64, int) {
	switch Kind(b) {
	case Normal:
		return hidden | Frac(b), Exp(b) - bias
	case Sub:
		return Frac(b), leastExp
	}
	return 0, 0
}

// Flip is the pattern with its sign turned, Abs without it, Sign with another one's.
func Flip(b uint64) uint64 { return b ^ signBit }

// Abs is the pattern without its sign.
func Abs(b uint64) uint64 { return b &^ signBit }

// Sign is a pattern with another one's sign.
func Sign(b, of uint64) uint64 { return Abs(b) | of&signBit }

// Next is the least pattern above one in value; of what has none it itself.
func Next(b uint64) uint64 {
	kind := Kind(b)
	switch {
	case kind == Nan || b == PosInf:
		return b
	case kind == Zero:
		return Least
	case Neg(b):
		// Without their signs, patterns stand in the order of their values, also from one kind to the next.
		return b - 1
	}
	return b + 1
}

// Prev is the greatest pattern beneath one in value.
func Prev(b uint64) uint64 { return Flip(Next(Flip(b))) }

// Of is the pattern of a float64, Float the float64 of a pattern.
func Of(x float64) uint64 { return math.Float64bits(x) }

// Float is the float64 of a pattern.
func Float(b uint64) float64 { return math.Float64frombits(b) }
