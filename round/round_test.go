package round

import (
	"math"
	"math/big"
	"math/rand"
	"testing"

	"gimbal/api"
	"gimbal/wide"
	"gimbal/word"
)

const full = math.MaxUint64

// What is told of a number that is lost, and of one that is too great.
const (
	lost  = api.Inexact | api.Under
	above = api.Inexact | api.Over
)

type try struct {
	w    wide.Wide
	exp  int
	more bool
	want uint64
	f    api.Flags
}

func lo(n uint64) wide.Wide { return wide.Wide{Lo: n} }

// check asks with both signs: the sign is set, and all else stays.
func check(t *testing.T, all []try) {
	t.Helper()
	for _, x := range all {
		if b, f := Round(false, x.w, x.exp, x.more); b != x.want || f != x.f {
			t.Errorf("Round(false, %x, %d, %v) = %x, %d, want %x, %d", x.w, x.exp, x.more, b, f, x.want, x.f)
		}
		if b, f := Round(true, x.w, x.exp, x.more); b != word.Flip(x.want) || f != x.f {
			t.Errorf("Round(true, %x, %d, %v) = %x, %d, want %x, %d", x.w, x.exp, x.more, b, f, word.Flip(x.want), x.f)
		}
	}
}

// P3.1, P3.2: the nearest of two, the even one of two equally near, a little more than half.
func TestNearest(t *testing.T) {
	const two53 = 0x4340000000000000
	check(t, []try{
		{lo(1), 0, false, word.One, 0},
		{lo(1), 0, true, word.One, api.Inexact},
		{lo(1 << 63), -63, false, word.One, 0},
		{wide.Wide{Hi: 1 << 63}, -127, false, word.One, 0},
		{wide.Wide{Hi: 1 << 63}, -127, true, word.One, api.Inexact},
		{wide.Wide{Hi: 1 << 63, Lo: 1}, -127, false, word.One, api.Inexact},
		{lo(3), -2, false, word.Of(0.75), 0},
		{lo(1<<53 - 1), 0, false, two53 - 1, 0},
		{lo(1 << 53), 0, false, two53, 0},
		{lo(1<<53 + 1), 0, false, two53, api.Inexact},
		{lo(1<<53 + 1), 0, true, two53 + 1, api.Inexact},
		{lo(1<<53 + 2), 0, false, two53 + 1, 0},
		{lo(1<<53 + 2), 0, true, two53 + 1, api.Inexact},
		{lo(1<<53 + 3), 0, false, two53 + 2, api.Inexact},
		{lo(1<<54 + 1), 0, false, two53 + 1<<52, api.Inexact},
		{lo(1<<54 + 3), 0, false, two53 + 1<<52 + 1, api.Inexact},
		{lo(1<<54 + 2), 0, false, two53 + 1<<52, api.Inexact},
		{lo(1<<54 + 6), 0, false, two53 + 1<<52 + 2, api.Inexact},
		{lo(1<<54 - 1), 0, false, two53 + 1<<52, api.Inexact},
		{lo(full), 0, false, word.Of(1 << 64), api.Inexact},
		{wide.Wide{Hi: full, Lo: full}, 0, false, word.Of(math.Ldexp(1, 128)), api.Inexact},
		{wide.Wide{Hi: 1 << 52, Lo: 1 << 63}, -64, false, word.Of(1 << 52), api.Inexact},
		{wide.Wide{Hi: 1<<52 + 1, Lo: 1 << 63}, -64, false, word.Of(1<<52 + 2), api.Inexact},
		{wide.Wide{Hi: 1 << 52, Lo: 1<<63 + 1}, -64, false, word.Of(1<<52 + 1), api.Inexact},
		{wide.Wide{Hi: 1 << 52, Lo: 1<<63 - 1}, -64, true, word.Of(1 << 52), api.Inexact},
	})
}

// P3.1, P3.2: numbers beneath the Normal ones, the least, and what is lost altogether.
func TestSmall(t *testing.T) {
	check(t, []try{
		{lo(1), -1074, false, word.Least, 0},
		{lo(1), -1074, true, word.Least, lost},
		{lo(1), -1075, false, 0, lost},
		{lo(1), -1075, true, word.Least, lost},
		{lo(3), -1075, false, 2, lost},
		{lo(5), -1075, false, 2, lost},
		{lo(5), -1075, true, 3, lost},
		{lo(3), -1076, false, word.Least, lost},
		{lo(1), -1076, true, 0, lost},
		{lo(full), -1138, false, word.Least, lost},
		{lo(full), -1139, false, 0, lost},
		{lo(full), -1139, true, 0, lost},
		{wide.Wide{Hi: full, Lo: full}, -1074 - 128, false, word.Least, lost},
		{wide.Wide{Hi: full, Lo: full}, -1074 - 129, true, 0, lost},
		{lo(1<<52 - 1), -1074, false, word.Small - 1, 0},
		{lo(1<<52 - 1), -1074, true, word.Small - 1, lost},
		{lo(1), -1022, false, word.Small, 0},
		{lo(1), -1022, true, word.Small, api.Inexact},
		{lo(1<<53 - 1), -1075, false, word.Small, lost},
		{lo(1<<53 - 1), -1075, true, word.Small, lost},
		{lo(1<<54 - 1), -1076, false, word.Small, lost},
		{lo(1<<53 - 3), -1075, false, word.Small - 2, lost},
		{lo(1<<53 + 1), -1075, false, word.Small, api.Inexact},
		{lo(1<<53 + 3), -1075, false, word.Small + 2, api.Inexact},
		{lo(1<<53 - 1), -1074, false, word.Small + 1<<52 - 1, 0},
	})
}

// P3.1, P3.2: no upper bound while rounding; then infinity.
func TestGreat(t *testing.T) {
	check(t, []try{
		{lo(1<<53 - 1), 971, false, word.Most, 0},
		{lo(1<<53 - 1), 971, true, word.Most, api.Inexact},
		{lo(1<<54 - 2), 970, true, word.Most, api.Inexact},
		{lo(1<<54 - 1), 970, false, word.PosInf, above},
		{lo(1<<55 - 3), 969, false, word.Most, api.Inexact},
		{lo(1<<55 - 2), 969, false, word.PosInf, above},
		{lo(1), 1023, false, 0x7fe0000000000000, 0},
		{lo(1), 1024, false, word.PosInf, above},
		{lo(1), 1024, true, word.PosInf, above},
		{wide.Wide{Hi: full, Lo: full}, 896, false, word.PosInf, above},
		{wide.Wide{Hi: full, Lo: full}, 895, false, 0x7fe0000000000000, api.Inexact},
		{lo(1), 3072, false, word.PosInf, above},
		{wide.Wide{Hi: full, Lo: full}, 5000, true, word.PosInf, above},
	})
}

// P3.1, P3.2: 0, and 0 with something more, at any exponent.
func TestZero(t *testing.T) {
	for _, exp := range []int{math.MinInt, -100001, -1075, -1074, -1, 0, 5, 1024, 100001, math.MaxInt} {
		check(t, []try{
			{wide.Wide{}, exp, false, 0, 0},
			{wide.Wide{}, exp, true, 0, lost},
		})
	}
}

// P3.1: exponents far off count as the last one.
func TestFarExponents(t *testing.T) {
	for _, w := range []wide.Wide{{Lo: 1}, {Lo: full}, {Hi: 1}, {Hi: full, Lo: full}} {
		for _, more := range []bool{false, true} {
			for _, exp := range []int{math.MinInt, math.MinInt + 1, math.MinInt + 128, -1 << 40, -1 << 32, -1<<32 - 64, -100001, -100000, -99999, -2000} {
				check(t, []try{{w, exp, more, 0, lost}})
			}
			for _, exp := range []int{math.MaxInt, math.MaxInt - 1, math.MaxInt - 128, 1 << 40, 1 << 32, 1<<32 - 64, 100001, 100000, 99999, 1024} {
				check(t, []try{{w, exp, more, word.PosInf, above}})
			}
		}
	}
}

// meant is the number that the document says is meant.
func meant(w wide.Wide, exp int, more bool) *big.Rat {
	n := new(big.Int).SetUint64(w.Hi)
	n.Lsh(n, 64).Or(n, new(big.Int).SetUint64(w.Lo))
	if more {
		n.Lsh(n, 200)
		n.Lsh(n, 2).Add(n, big.NewInt(1))
		exp -= 202
	}
	x := new(big.Rat).SetInt(n)
	return x.Mul(x, power(exp))
}

func power(exp int) *big.Rat {
	one := big.NewInt(1)
	if exp < 0 {
		return new(big.Rat).SetFrac(one, new(big.Int).Lsh(one, uint(-exp)))
	}
	return new(big.Rat).SetInt(new(big.Int).Lsh(one, uint(exp)))
}

// wanted is the answer, told by exact numbers.
func wanted(w wide.Wide, exp int, more bool) try {
	x := meant(w, exp, more)
	number, _ := x.Float64()
	want := try{w, exp, more, word.Of(number), 0}
	switch {
	case math.IsInf(number, 0):
		want.f = above
	case x.Cmp(new(big.Rat).SetFloat64(number)) == 0: // (Float64's own word on this fails where all bits are lost)
	case x.Cmp(power(-1022)) < 0:
		want.f = lost
	default:
		want.f = api.Inexact
	}
	return want
}

// P3.1, P3.2: whole numbers of all lengths, near halves too, against exact numbers.
func TestAgainstExact(t *testing.T) {
	r := rand.New(rand.NewSource(31))
	for range 40000 {
		w, _ := wide.Wide{Hi: r.Uint64(), Lo: r.Uint64()}.Right(r.Intn(128))
		if r.Intn(2) == 0 { // a few bits alone: ties, and nearly ties
			bit := wide.Wide{Lo: 1}.Left(r.Intn(128))
			other := wide.Wide{Lo: 1}.Left(r.Intn(128))
			w, _ = bit.Add(other)
			if r.Intn(3) == 0 {
				w, _ = w.Sub(wide.Wide{Lo: 1})
			}
		}
		if w.Zero() {
			continue
		}
		exp := r.Intn(300) - 150
		switch r.Intn(3) {
		case 0:
			exp = -1074 - r.Intn(w.Len()+3) + r.Intn(60)
		case 1:
			exp = 1024 - w.Len() + r.Intn(5) - 2
		}
		check(t, []try{wanted(w, exp, r.Intn(2) == 0)})
	}
}

// P3.1: each way to cut a whole number at its last bits, with both neighbours, near the least numbers.
func TestEachCut(t *testing.T) {
	for cut := range 75 {
		for _, head := range []uint64{1 << 52, 1<<52 + 1, 1<<53 - 1} {
			middle := wide.Wide{Lo: head}.Left(cut)
			half := wide.Wide{}
			if cut > 0 {
				half = wide.Wide{Lo: 1}.Left(cut - 1)
			}
			w, _ := middle.Add(half)
			up, _ := w.Add(wide.Wide{Lo: 1})
			down, _ := w.Sub(wide.Wide{Lo: 1})
			for _, x := range []wide.Wide{w, up, down} {
				for _, exp := range []int{0, -1074 - cut, -1075 - cut, -1126 - cut} {
					check(t, []try{wanted(x, exp, false), wanted(x, exp, true)})
				}
			}
		}
	}
}
