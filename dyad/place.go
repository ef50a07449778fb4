package dyad

import (
	"cmp"
	"slices"
)

// half bounds the digits of a place: two of them and a carry, added, don't wrap round.
const half int64 = 1 << 61

// beyond is what near answers of what lies farther away: no list of words is so long, no number of binary64 so great
// or small, and 64 times it doesn't wrap round.
const beyond = 1 << 50

// place is the exponent of a power of 2^64: a whole number of any size, since a number may be multiplied by itself as
// often as somebody likes, and its exponent mustn't wrap round. Its digits, of the base 2^62, are from -half to half-1;
// those above the lowest one stand in high, the lowest of them first, the last of them not 0.
type place struct {
	low  int64
	high []int64
}

// placeOf is the place of an int between -half and half.
func placeOf(n int) place { return place{low: int64(n)} }

func (a place) clone() place { return place{low: a.low, high: slices.Clone(a.high)} }

func (a place) plus(b place) place { return combine(a, b, 1) }

func (a place) minus(b place) place { return combine(a, b, -1) }

// sign is -1, 0 or 1: all digits beneath the highest are, together, less than one of it.
func (a place) sign() int {
	if n := len(a.high); n > 0 {
		return cmp.Compare(a.high[n-1], 0)
	}
	return cmp.Compare(a.low, 0)
}

// near is the place itself, unless it lies beyond what anybody could need.
func (a place) near() int {
	if len(a.high) > 0 {
		return a.sign() * beyond
	}
	return int(min(max(a.low, -beyond), beyond))
}

// combine is the sum of a, and of b times a sign.
func combine(a, b place, sign int64) place {
	low, carry := split(a.low + sign*b.low)
	out := place{low: low}
	if carry == 0 && len(a.high) == 0 && len(b.high) == 0 {
		return out
	}
	for i := range max(len(a.high), len(b.high)) + 1 {
		var digit int64
		digit, carry = split(digitAt(a.high, i) + sign*digitAt(b.high, i) + carry)
		out.high = append(out.high, digit)
	}
	n := len(out.high)
	for n > 0 && out.high[n-1] == 0 {
		n--
	}
	out.high = out.high[:n:n]
	return out
}

// split is a sum of digits as a digit and what is carried to the next.
func split(n int64) (digit, carry int64) {
	switch {
	case n >= half:
		return n - 2*half, 1
	case n < -half:
		return n + 2*half, -1
	}
	return n, 0
}

func digitAt(digits []int64, i int) int64 {
	if i >= len(digits) {
		return 0
	}
	return digits[i]
}
