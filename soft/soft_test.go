package soft

import (
	"math"
	"math/big"
	"math/rand"
	"testing"

	"gimbal/api"
	"gimbal/word"
)

const (
	signals    = 0x7ff0000000000001
	signalsNeg = 0xfff7ffffffffffff
	two        = 0x4000000000000000
)

type call struct {
	name string
	of   func(a, b uint64) (uint64, api.Flags)
	by   func(c *Calc, a, b uint64) uint64
	go64 func(x, y float64) float64
	rat  func(z, x, y *big.Rat) *big.Rat
}

func calls() []call {
	return []call{
		{"Add", Add, (*Calc).Add, func(x, y float64) float64 { return x + y }, (*big.Rat).Add},
		{"Sub", Sub, (*Calc).Sub, func(x, y float64) float64 { return x - y }, (*big.Rat).Sub},
		{"Mul", Mul, (*Calc).Mul, func(x, y float64) float64 { return x * y }, (*big.Rat).Mul},
		{"Div", Div, (*Calc).Div, func(x, y float64) float64 { return x / y }, (*big.Rat).Quo},
	}
}

type try struct {
	a, b, want uint64
	f          api.Flags
}

func check(t *testing.T, name string, of func(a, b uint64) (uint64, api.Flags), all []try) {
	t.Helper()
	for _, x := range all {
		if b, f := of(x.a, x.b); b != x.want || f != x.f {
			t.Errorf("%s(%x, %x) = %x, %d, want %x, %d", name, x.a, x.b, b, f, x.want, x.f)
		}
	}
}

// P4.1: a Nan comes out Quiet, whatever it is beside; Invalid only if one signals.
func TestNan(t *testing.T) {
	others := []uint64{0, word.Minus0, word.One, word.Least, word.Most, word.PosInf, word.NegInf, word.Quiet}
	quiets := []uint64{word.Quiet, word.Flip(word.Quiet), 0x7fffffffffffffff, 0xffffffffffffffff, 0x7ff8000000000001}
	signalling := []uint64{signals, signalsNeg, 0x7ff4000000000000, 0xfff0000000000001}
	for _, c := range calls() {
		for _, o := range others {
			for _, q := range quiets {
				check(t, c.name, c.of, []try{{q, o, word.Quiet, 0}, {o, q, word.Quiet, 0}})
			}
			for _, s := range signalling {
				check(t, c.name, c.of, []try{{s, o, word.Quiet, api.Invalid}, {o, s, word.Quiet, api.Invalid}, {s, s, word.Quiet, api.Invalid}})
			}
		}
	}
}

// P4.1: what has no value.
func TestInvalid(t *testing.T) {
	check(t, "Add", Add, []try{
		{word.PosInf, word.NegInf, word.Quiet, api.Invalid},
		{word.NegInf, word.PosInf, word.Quiet, api.Invalid},
	})
	check(t, "Sub", Sub, []try{
		{word.PosInf, word.PosInf, word.Quiet, api.Invalid},
		{word.NegInf, word.NegInf, word.Quiet, api.Invalid},
	})
	for _, inf := range []uint64{word.PosInf, word.NegInf} {
		for _, zero := range []uint64{0, word.Minus0} {
			check(t, "Mul", Mul, []try{{inf, zero, word.Quiet, api.Invalid}, {zero, inf, word.Quiet, api.Invalid}})
			check(t, "Div", Div, []try{
				{inf, inf, word.Quiet, api.Invalid}, {inf, word.Flip(inf), word.Quiet, api.Invalid},
				{zero, zero, word.Quiet, api.Invalid}, {zero, word.Flip(zero), word.Quiet, api.Invalid},
			})
		}
	}
}

// P4.2: sums of infinities and of zeros, sums that are 0.
func TestAddEdges(t *testing.T) {
	minusOne := word.Flip(word.One)
	check(t, "Add", Add, []try{
		{word.One, word.One, two, 0},
		{word.PosInf, word.PosInf, word.PosInf, 0}, {word.NegInf, word.NegInf, word.NegInf, 0},
		{word.PosInf, word.Flip(word.Most), word.PosInf, 0}, {word.One, word.NegInf, word.NegInf, 0}, {word.Minus0, word.PosInf, word.PosInf, 0},
		{0, 0, 0, 0}, {word.Minus0, word.Minus0, word.Minus0, 0}, {0, word.Minus0, 0, 0}, {word.Minus0, 0, 0, 0},
		{word.One, minusOne, 0, 0}, {minusOne, word.One, 0, 0}, {word.Least, word.Flip(word.Least), 0, 0}, {word.Flip(word.Most), word.Most, 0, 0},
		{word.One, word.Minus0, word.One, 0}, {word.Minus0, minusOne, minusOne, 0}, {0, word.Least, word.Least, 0}, {word.Most, 0, word.Most, 0},
		{word.Least, word.Least, 2, 0}, {word.Small, word.Flip(word.Least), word.Small - 1, 0}, {word.Small - 1, word.Least, word.Small, 0},
		{word.One, word.Least, word.One, api.Inexact}, {word.Flip(word.Least), word.One, word.One, api.Inexact},
		{word.Most, word.Least, word.Most, api.Inexact}, {word.Most, word.Flip(word.Least), word.Most, api.Inexact},
		{word.Most, word.Most, word.PosInf, api.Over | api.Inexact}, {word.Flip(word.Most), word.Flip(word.Most), word.NegInf, api.Over | api.Inexact},
		{word.Most, 0x7c90000000000000, word.PosInf, api.Over | api.Inexact}, {word.Most, 0x7c8fffffffffffff, word.Most, api.Inexact},
	})
	check(t, "Sub", Sub, []try{
		{word.One, word.One, 0, 0}, {0, 0, 0, 0}, {word.Minus0, 0, word.Minus0, 0}, {0, word.Minus0, 0, 0}, {word.Minus0, word.Minus0, 0, 0},
		{word.One, minusOne, two, 0}, {word.PosInf, word.NegInf, word.PosInf, 0}, {word.One, word.PosInf, word.NegInf, 0},
		{word.One, 0x3c90000000000001, word.One - 1, api.Inexact}, {word.One, 0x3c90000000000000, word.One, api.Inexact},
	})
}

// P4.2: products and quotients of infinities and zeros; the signs.
func TestMulDivEdges(t *testing.T) {
	under := api.Under | api.Inexact
	over := api.Over | api.Inexact
	mul := []try{
		{word.PosInf, word.One, word.PosInf, 0}, {word.PosInf, word.PosInf, word.PosInf, 0}, {word.Least, word.PosInf, word.PosInf, 0},
		{0, word.Most, 0, 0}, {word.Least, 0, 0, 0}, {0, 0, 0, 0}, {word.One, word.Least, word.Least, 0},
		{word.Most, word.Most, word.PosInf, over}, {word.Most, two, word.PosInf, over}, {word.Least, word.Least, 0, under},
		{word.Least, word.One - 1, word.Least, under}, {word.Small, word.One - 1, word.Small, under}, {word.Small, word.One + 1, word.Small + 1, 0},
		{word.Small, 0x3fe0000000000000, word.Small >> 1, 0}, {word.One + 1, word.One + 1, word.One + 2, api.Inexact},
	}
	div := []try{
		{word.PosInf, word.One, word.PosInf, 0}, {word.PosInf, 0, word.PosInf, 0}, {word.PosInf, word.Most, word.PosInf, 0},
		{word.One, word.PosInf, 0, 0}, {0, word.PosInf, 0, 0}, {word.Most, word.PosInf, 0, 0},
		{word.One, 0, word.PosInf, api.ByZero}, {word.Least, 0, word.PosInf, api.ByZero}, {word.Most, 0, word.PosInf, api.ByZero},
		{0, word.One, 0, 0}, {0, word.Least, 0, 0}, {word.One, word.One, word.One, 0}, {word.Least, word.Least, word.One, 0},
		{word.One, 0x4008000000000000, 0x3fd5555555555555, api.Inexact}, {word.Most, word.Least, word.PosInf, over}, {word.Least, word.Most, 0, under},
		{word.Least, two, 0, under}, {3, two, 2, under}, {word.Small, two, word.Small >> 1, 0}, {word.Most, 0x3fe0000000000000, word.PosInf, over},
	}
	check(t, "Mul", Mul, withSigns(mul))
	check(t, "Div", Div, withSigns(div))
}

// withSigns has each try with all four pairs of signs: they are multiplied, and change nothing else.
func withSigns(all []try) []try {
	var out []try
	for _, x := range all {
		a, b, minus := word.Flip(x.a), word.Flip(x.b), word.Flip(x.want)
		out = append(out, x, try{a, b, x.want, x.f}, try{a, x.b, minus, x.f}, try{x.a, b, minus, x.f})
	}
	return out
}

// edges are patterns at the bounds of each kind, of both signs.
func edges() []uint64 {
	plus := []uint64{
		0, word.Least, 2, 3, 1<<51 - 1, 1 << 51, word.Small - 1, word.Small, word.Small + 1, 2*word.Small - 1, 2 * word.Small,
		word.One - 1, word.One, word.One + 1, two, word.Of(3), word.Of(0.1), word.Of(1 << 53), word.Of(1<<53 - 1),
		0x3c90000000000000, 0x3c90000000000001, 0x3c8fffffffffffff, 0x3ca0000000000000, 0x1ff0000000000000, 0x5fefffffffffffff,
		0x7c90000000000000, 0x7fe0000000000000, word.Most - 1, word.Most, word.PosInf, word.Quiet,
	}
	var out []uint64
	for _, b := range plus {
		out = append(out, b, word.Flip(b))
	}
	return out
}

// near is a pair of patterns whose exponents are often near each other, or near an end.
func near(r *rand.Rand) (uint64, uint64) {
	a, b := r.Uint64(), r.Uint64()
	exp := word.Exp(a)
	switch r.Intn(4) {
	case 0:
		b = word.Make(word.Neg(b), exp+r.Intn(140)-70, b)
	case 1:
		a = word.Make(word.Neg(a), r.Intn(60), a)
		b = word.Make(word.Neg(b), r.Intn(60)+r.Intn(2)*1000, b)
	case 2:
		b = word.Make(word.Neg(b), 2046-exp+r.Intn(120)-60, b)
	}
	if r.Intn(2) == 0 { // few bits: ties, and what cancels
		a &^= 1<<r.Intn(53) - 1
		b &^= 1<<r.Intn(53) - 1
	}
	return a, b
}

// wanted is what Go's own numbers say, and the flags by exact numbers.
func wanted(c call, a, b uint64) try {
	x, y := word.Float(a), word.Float(b)
	want := try{a: a, b: b, want: word.Of(c.go64(x, y))}
	if word.Kind(want.want) == word.Nan {
		want.want = word.Quiet
		if word.Signals(a) || word.Signals(b) || word.Kind(a) != word.Nan && word.Kind(b) != word.Nan {
			want.f = api.Invalid
		}
		return want
	}
	if !word.Finite(a) || !word.Finite(b) {
		return want
	}
	if c.name == "Div" && y == 0 {
		want.f = api.ByZero
		return want
	}
	exact := c.rat(new(big.Rat), new(big.Rat).SetFloat64(x), new(big.Rat).SetFloat64(y))
	small := new(big.Rat).SetFloat64(word.Float(word.Small))
	switch {
	case !word.Finite(want.want):
		want.f = api.Over | api.Inexact
	case exact.Cmp(new(big.Rat).SetFloat64(word.Float(want.want))) == 0:
	case exact.Abs(exact).Cmp(small) < 0:
		want.f = api.Under | api.Inexact
	default:
		want.f = api.Inexact
	}
	return want
}

// P4.1, P4.2: every pair of edges, and many others, against Go's own numbers and exact ones.
func TestAgainstGo(t *testing.T) {
	for _, c := range calls() {
		for _, a := range edges() {
			for _, b := range edges() {
				check(t, c.name, c.of, []try{wanted(c, a, b)})
			}
		}
	}
	r := rand.New(rand.NewSource(42))
	for range 10000 {
		a, b := near(r)
		for _, c := range calls() {
			check(t, c.name, c.of, []try{wanted(c, a, b)})
		}
	}
}

// P4.2: the bits alone, of many more pairs.
func TestBitsAgainstGo(t *testing.T) {
	r := rand.New(rand.NewSource(43))
	for range 300000 {
		a, b := near(r)
		for _, c := range calls() {
			want := word.Of(c.go64(word.Float(a), word.Float(b)))
			if math.IsNaN(word.Float(want)) {
				want = word.Quiet
			}
			if got, _ := c.of(a, b); got != want {
				t.Errorf("%s(%x, %x) = %x, want %x", c.name, a, b, got, want)
			}
		}
	}
}

// P4.2: Sub is Add of the other's Flip, flags and all.
func TestSubIsAdd(t *testing.T) {
	all := append(edges(), signals, signalsNeg)
	for _, a := range all {
		for _, b := range all {
			want, f := Add(a, word.Flip(b))
			check(t, "Sub", Sub, []try{{a, b, want, f}})
		}
	}
}

// P4.3: the same numbers, and the flags gathered; without a Calc the numbers alone.
func TestCalc(t *testing.T) {
	var none *Calc
	all := append(edges(), signals, signalsNeg)
	for _, c := range calls() {
		for _, a := range all {
			for _, b := range all {
				want, f := c.of(a, b)
				fresh, old := &Calc{}, &Calc{F: api.Under | api.ByZero}
				if got := c.by(fresh, a, b); got != want || fresh.F != f {
					t.Errorf("Calc %s(%x, %x) = %x, F %d, want %x, %d", c.name, a, b, got, fresh.F, want, f)
				}
				if got := c.by(old, a, b); got != want || old.F != api.Under|api.ByZero|f {
					t.Errorf("Calc %s(%x, %x) = %x, F %d, want %x, and %d gathered", c.name, a, b, got, old.F, want, f)
				}
				if got := c.by(none, a, b); got != want {
					t.Errorf("nil Calc %s(%x, %x) = %x, want %x", c.name, a, b, got, want)
				}
			}
		}
	}
}

// P4.3: the flags of one call after another stay.
func TestCalcGathers(t *testing.T) {
	c := &Calc{}
	for i, x := range []struct {
		got, want uint64
		f         api.Flags
	}{
		{c.Add(word.One, word.One), two, 0},
		{c.Add(word.One, 1), word.One, api.Inexact},
		{c.Div(word.One, 0), word.PosInf, api.ByZero},
		{c.Sub(word.PosInf, word.PosInf), word.Quiet, api.Invalid},
		{c.Mul(word.Least, word.Least), 0, api.Inexact | api.Under},
		{c.Mul(word.Most, two), word.PosInf, api.Inexact | api.Over},
	} {
		if x.got != x.want || c.F&x.f != x.f {
			t.Errorf("%d: %x, F %d, want %x, with %d", i, x.got, c.F, x.want, x.f)
		}
	}
	if c.F != 31 {
		t.Errorf("F = %d, want all flags", c.F)
	}
}

// P4.3: Note hands on any pattern as it is.
func TestNote(t *testing.T) {
	var none *Calc
	for _, b := range []uint64{0, word.Minus0, word.One, word.PosInf, word.Quiet, signals, signalsNeg, math.MaxUint64} {
		c := &Calc{F: api.Inexact}
		if got := c.Note(b, api.Over|api.Inexact); got != b || c.F != api.Over|api.Inexact {
			t.Errorf("Note(%x) = %x, F %d", b, got, c.F)
		}
		if got := c.Note(b, 0); got != b || c.F != api.Over|api.Inexact {
			t.Errorf("Note(%x, 0) = %x, F %d", b, got, c.F)
		}
		if got := c.Note(b, 255); got != b || c.F != 255 {
			t.Errorf("Note(%x, 255) = %x, F %d", b, got, c.F)
		}
		if got := none.Note(b, api.Over); got != b {
			t.Errorf("nil Note(%x) = %x", b, got)
		}
	}
}
