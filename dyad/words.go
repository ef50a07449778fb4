package dyad

import (
	"cmp"
	"math/bits"

	"gimbal/wide"
)

// mostWords is how many words a sum or a product may need: twice as many as the longest answer that the document's
// promises speak of has. One that needs more is 0, rather than to run out of memory.
const mostWords = 1 << 29

// ofWord is whole times 2^exp, or its negative.
func ofWord(neg bool, whole uint64, exp int) Num {
	at := exp >> 6 // rounded down, also below 0
	w := wide.Wide{Lo: whole}.Left(exp & 63)
	return trim(neg, []uint64{w.Lo, w.Hi}, placeOf(at))
}

// trim is the number of words that may have zeros at both ends.
func trim(neg bool, words []uint64, at place) Num {
	low, high := 0, len(words)
	for high > 0 && words[high-1] == 0 {
		high--
	}
	for low < high && words[low] == 0 {
		low++
	}
	if low == high {
		return Num{}
	}
	// The zeros above are no part of the number: nobody can reach them from it.
	return Num{neg: neg, words: words[low:high:high], at: at.plus(placeOf(low))}
}

// wordAt is one of a number's words; beyond its ends there are zeros.
func wordAt(words []uint64, i int) uint64 {
	if i < 0 || i >= len(words) {
		return 0
	}
	return words[i]
}

// addSize is a number with another one's size added to its own.
func (a Num) addSize(b Num) Num {
	bottom, i, k, n := align(a, b)
	if n > mostWords {
		return Num{}
	}
	out := make([]uint64, n+1) // the sum may have a word more
	copy(out[i:], a.words)
	addTo(out[k:], b.words)
	return trim(a.neg, out, bottom)
}

// subSize is a number with another one's size, which isn't greater, taken from its own.
func (a Num) subSize(b Num) Num {
	bottom, i, k, n := align(a, b)
	if n > mostWords {
		return Num{}
	}
	out := make([]uint64, n)
	copy(out[i:], a.words)
	subFrom(out[k:], b.words)
	return trim(a.neg, out, bottom)
}

// align is where the lower of two numbers begins, how many words above that each of them does, and how many there are
// in all, up to the higher one's end.
func align(a, b Num) (bottom place, i, k, n int) {
	gap := a.at.minus(b.at).near()
	i, k = max(gap, 0), max(-gap, 0)
	bottom = a.at
	if gap > 0 {
		bottom = b.at
	}
	return bottom, i, k, max(i+len(a.words), k+len(b.words))
}

// addTo adds some words to those that lie in into, which has room for the sum.
func addTo(into, words []uint64) {
	var carry uint64
	for i, w := range words {
		into[i], carry = bits.Add64(into[i], w, carry)
	}
	for i := len(words); carry != 0; i++ {
		into[i], carry = bits.Add64(into[i], 0, carry)
	}
}

// subFrom takes some words from those that lie in from, which aren't less.
func subFrom(from, words []uint64) {
	var borrow uint64
	for i, w := range words {
		from[i], borrow = bits.Sub64(from[i], w, borrow)
	}
	for i := len(words); borrow != 0; i++ {
		from[i], borrow = bits.Sub64(from[i], 0, borrow)
	}
}

// product is the words of a product.
func product(a, b []uint64) []uint64 {
	out := make([]uint64, len(a)+len(b))
	for i, w := range a {
		if w != 0 { // numbers far apart, added, have many zeros between them
			out[i+len(b)] = addTimes(out[i:i+len(b)], b, w)
		}
	}
	return out
}

// addTimes adds some words, times a word, to those that lie in into, equally many, and answers what goes beyond them.
func addTimes(into, words []uint64, times uint64) uint64 {
	var carry uint64
	for i, w := range words {
		// All three together are below 2^128, whatever they are.
		all, _ := wide.Mul(w, times).Add(wide.Wide{Lo: into[i]})
		all, _ = all.Add(wide.Wide{Lo: carry})
		into[i], carry = all.Lo, all.Hi
	}
	return carry
}

// cmpFromTop is -1, 0 or 1 of the words of two numbers that end at the same height.
func cmpFromTop(a, b []uint64) int {
	for i := range max(len(a), len(b)) {
		x, y := wordAt(a, len(a)-1-i), wordAt(b, len(b)-1-i)
		if x != y {
			return cmp.Compare(x, y)
		}
	}
	return 0
}
