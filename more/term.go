package more

import (
	"gimbal/api"
	"gimbal/round"
	"gimbal/wide"
	"gimbal/word"
)

// termBits is how long a term's whole number is: a sum of two has a bit more, which a Wide has room for.
const termBits = 126

// term is a number that isn't 0, of up to 106 bits: whole times 2^exp, whole always of termBits bits.
type term struct {
	neg   bool
	whole wide.Wide
	exp   int
}

func newTerm(neg bool, whole wide.Wide, exp int) term {
	n := termBits - whole.Len()
	return term{neg: neg, whole: whole.Left(n), exp: exp - n}
}

// productOf is the product of two numbers that aren't zeros, exactly.
func productOf(a, b uint64) term {
	aWhole, aExp := word.Parts(a)
	bWhole, bExp := word.Parts(b)
	return newTerm(word.Neg(a) != word.Neg(b), wide.Mul(aWhole, bWhole), aExp+bExp)
}

func termOf(c uint64) term {
	whole, exp := word.Parts(c)
	return newTerm(word.Neg(c), wide.Wide{Lo: whole}, exp)
}

// less tells whether a is less than b without their signs: being equally long, they stand in the order of their exponents.
func (a term) less(b term) bool {
	if a.exp != b.exp {
		return a.exp < b.exp
	}
	return a.whole.Cmp(b.whole) < 0
}

// addTerms is the sum of two terms, rounded.
func addTerms(great, small term) (uint64, api.Flags) {
	if great.less(small) {
		great, small = small, great
	}
	// A term ends in 20 zeros at least: where something falls out, the smaller one is so far beneath
	// that nearly all bits of the greater one stay, many more than are kept.
	lower, lost := small.whole.Right(great.exp - small.exp)
	if great.neg == small.neg {
		all, _ := great.whole.Add(lower)
		return round.Round(great.neg, all, great.exp, lost)
	}
	if lost { // one less, and a little more than that
		lower, _ = lower.Add(wide.Wide{Lo: 1})
	}
	rest, _ := great.whole.Sub(lower)
	return round.Round(great.neg && !rest.Zero(), rest, great.exp, lost)
}
