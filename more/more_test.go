package more

import (
	"math"
	"math/big"
	"math/rand"
	"testing"

	"gimbal/api"
	"gimbal/soft"
	"gimbal/word"
)

const (
	two   = 0x4000000000000000
	half  = 0x3fe0000000000000
	lost  = api.Inexact | api.Under
	above = api.Inexact | api.Over
)

// quiets are Nans that don't signal, signalling those that do.
func quiets() []uint64 {
	return []uint64{word.Quiet, word.Flip(word.Quiet), 0x7ff8000000000001, 0x7fffffffffffffff, math.MaxUint64}
}

func signalling() []uint64 {
	return []uint64{0x7ff0000000000001, 0xfff0000000000001, 0x7ff7ffffffffffff, 0xfff4000000000000}
}

// numbers are patterns at the bounds of each kind, of both signs; all of them finite.
func numbers() []uint64 {
	var out []uint64
	for _, b := range []uint64{
		0, word.Least, 2, 3, 1 << 51, word.Small - 1, word.Small, word.Small + 1, 2 * word.Small,
		0x1ff0000000000000, 0x3c90000000000000, 0x3c90000000000001, half, word.One - 1, word.One, word.One + 1, two,
		word.Of(3), word.Of(0.1), word.Of(1 << 53), 0x5fefffffffffffff, 0x7fe0000000000000, word.Most - 1, word.Most,
	} {
		out = append(out, b, word.Flip(b))
	}
	return out
}

func exact(b uint64) *big.Rat { return new(big.Rat).SetFloat64(word.Float(b)) }

// rounded is the pattern nearest to an exact number that isn't 0, and the flags.
func rounded(x *big.Rat) (uint64, api.Flags) {
	number, _ := x.Float64()
	b := word.Of(number)
	if number == 0 {
		b = word.Make(x.Sign() < 0, 0, 0)
	}
	switch {
	case math.IsInf(number, 0):
		return b, above
	case x.Cmp(exact(b)) == 0:
		return b, 0
	case new(big.Rat).Abs(x).Cmp(exact(word.Small)) < 0:
		return b, lost
	}
	return b, api.Inexact
}

func checkSqrt(t *testing.T, a, want uint64, f api.Flags) {
	t.Helper()
	if b, g := Sqrt(a); b != want || g != f {
		t.Errorf("Sqrt(%x) = %x, %d, want %x, %d", a, b, g, want, f)
	}
}

// P5.1: what has no root, and what is its own.
func TestSqrtEdges(t *testing.T) {
	for _, a := range []uint64{0, word.Minus0, word.PosInf} {
		checkSqrt(t, a, a, 0)
	}
	for _, a := range []uint64{1<<63 | 1, word.Flip(word.Small), word.Flip(word.One), word.Flip(word.Most), word.NegInf} {
		checkSqrt(t, a, word.Quiet, api.Invalid)
	}
	for _, a := range quiets() {
		checkSqrt(t, a, word.Quiet, 0)
	}
	for _, a := range signalling() {
		checkSqrt(t, a, word.Quiet, api.Invalid)
	}
	for a, want := range map[uint64]uint64{
		word.Of(4): two, word.One: word.One, word.Of(0.25): half, word.Of(9): word.Of(3), word.Of(2.25): word.Of(1.5),
		word.Least: 0x1e60000000000000, 4: 0x1e70000000000000, word.Small: 0x2000000000000000, 0x7fd0000000000000: 0x5fe0000000000000,
	} {
		checkSqrt(t, a, want, 0)
	}
	checkSqrt(t, word.Most, 0x5fefffffffffffff, api.Inexact)
	checkSqrt(t, word.One-1, word.One-1, api.Inexact)
	checkSqrt(t, word.One+1, word.One, api.Inexact)
	checkSqrt(t, 2, word.Of(math.Sqrt(1e-323)), api.Inexact)
}

// P5.1: Go's own root, and Inexact where its square isn't the number.
func TestSqrtAgainstGo(t *testing.T) {
	r := rand.New(rand.NewSource(51))
	for i := range 60000 {
		a := word.Abs(r.Uint64())
		switch r.Intn(4) {
		case 0: // what has few bits, or the least exponents
			a = word.Make(false, r.Intn(3), a>>r.Intn(52))
		case 1: // a square, and what stands beside it
			x := float64(r.Intn(1 << 26))
			a = word.Of(x*x) + uint64(r.Intn(3)) - 1
		case 2:
			a &^= 1<<r.Intn(53) - 1
		}
		if !word.Finite(a) || word.Neg(a) || a == 0 {
			continue
		}
		want := word.Of(math.Sqrt(word.Float(a)))
		f := api.Inexact
		if root := exact(want); root.Mul(root, root).Cmp(exact(a)) == 0 {
			f = 0
		}
		if checkSqrt(t, a, want, f); t.Failed() {
			t.Fatalf("at try %d", i)
		}
	}
}

func checkFma(t *testing.T, a, b, c, want uint64, f api.Flags) {
	t.Helper()
	if x, g := Fma(a, b, c); x != want || g != f {
		t.Errorf("Fma(%x, %x, %x) = %x, %d, want %x, %d", a, b, c, x, g, want, f)
	}
	if x, g := Fma(b, a, c); x != want || g != f {
		t.Errorf("Fma(%x, %x, %x) = %x, %d, want %x, %d", b, a, c, x, g, want, f)
	}
}

// P5.2, and what a Nan makes of Fma: it signals, or infinity stands by zero beside it.
func TestFmaNan(t *testing.T) {
	infinite := []uint64{word.PosInf, word.NegInf}
	zeros := []uint64{0, word.Minus0}
	others := append(append(numbers(), infinite...), quiets()...)
	for _, q := range quiets() {
		for _, x := range others {
			for _, y := range others {
				checkFma(t, q, x, y, word.Quiet, 0)
			}
		}
		for _, x := range numbers() {
			for _, y := range numbers() {
				checkFma(t, x, y, q, word.Quiet, 0)
			}
		}
		for _, inf := range infinite {
			checkFma(t, inf, word.One, q, word.Quiet, 0)
			checkFma(t, inf, word.NegInf, q, word.Quiet, 0)
			checkFma(t, inf, word.Least, q, word.Quiet, 0)
			for _, zero := range zeros {
				checkFma(t, inf, zero, q, word.Quiet, api.Invalid)
			}
		}
	}
	for _, s := range signalling() {
		for _, x := range others {
			for _, y := range others {
				checkFma(t, s, x, y, word.Quiet, api.Invalid)
				checkFma(t, x, y, s, word.Quiet, api.Invalid)
			}
		}
	}
}

// P5.2: infinities.
func TestFmaInfinite(t *testing.T) {
	for _, inf := range []uint64{word.PosInf, word.NegInf} {
		for _, x := range append(numbers(), word.PosInf, word.NegInf) {
			if word.Abs(x) == 0 {
				for _, c := range append(numbers(), word.PosInf, word.NegInf) {
					checkFma(t, inf, x, c, word.Quiet, api.Invalid)
				}
				continue
			}
			product := word.Sign(word.PosInf, inf^x)
			for _, c := range numbers() {
				checkFma(t, inf, x, c, product, 0)
				if word.Finite(x) {
					checkFma(t, x, c, inf, inf, 0) // also where x times c is too great, and of the other sign
				}
			}
			checkFma(t, inf, x, product, product, 0)
			checkFma(t, inf, x, word.Flip(product), word.Quiet, api.Invalid)
		}
	}
}

// P5.2: the sign of a sum of 0, and of what is rounded to 0.
func TestFmaZero(t *testing.T) {
	minusOne := word.Flip(word.One)
	for _, x := range []struct{ a, b, c, want uint64 }{
		{0, 0, 0, 0}, {0, word.One, 0, 0}, {0, minusOne, 0, 0}, {0, minusOne, word.Minus0, word.Minus0}, {0, word.One, word.Minus0, 0},
		{word.Minus0, word.One, word.Minus0, word.Minus0}, {word.Minus0, minusOne, word.Minus0, 0}, {word.Minus0, word.Minus0, word.Minus0, 0},
		{word.Minus0, 0, word.Minus0, word.Minus0}, {word.Minus0, word.Most, 0, 0},
		{word.One, word.One, minusOne, 0}, {word.One, minusOne, word.One, 0}, {two, half, minusOne, 0}, {word.Least, minusOne, word.Least, 0},
		{0, word.Most, word.One, word.One}, {word.Minus0, word.Most, minusOne, minusOne}, {0, word.Least, word.Least, word.Least},
		{word.One, word.Most, 0, word.Most}, {minusOne, word.Least, word.Minus0, word.Flip(word.Least)},
	} {
		checkFma(t, x.a, x.b, x.c, x.want, 0)
	}
	for _, c := range []uint64{0, word.Minus0} {
		checkFma(t, word.Least, word.Least, c, 0, lost)
		checkFma(t, word.Least, word.Flip(word.Least), c, word.Minus0, lost)
		checkFma(t, word.Least, half, c, 0, lost)
		checkFma(t, word.Least, word.Flip(half), c, word.Minus0, lost)
	}
}

// P5.2: rounded once, where twice would be another number; the ends.
func TestFmaOnce(t *testing.T) {
	minus := word.Flip
	for _, x := range []struct {
		a, b, c, want uint64
		f             api.Flags
	}{
		{word.One + 1, word.One + 1, minus(word.One + 2), 0x3970000000000000, 0}, // 2^-104
		{word.One + 1, word.One - 1, minus(word.One), word.Of(0x1p-53 - 0x1p-105), 0},
		{word.Most, two, minus(word.Most), word.Most, 0},
		{word.Most, word.Most, minus(word.Most), word.PosInf, above},
		{word.Most, minus(two), 0, word.NegInf, above},
		{word.Most, word.One, word.Least, word.Most, api.Inexact},
		{word.Most, word.One, minus(word.Least), word.Most, api.Inexact},
		{word.Least, word.Least, word.One, word.One, api.Inexact},
		{word.Least, minus(word.Least), word.One, word.One, api.Inexact},
		{word.Least, word.Least, word.Most, word.Most, api.Inexact},
		{word.Least, word.Least, word.Least, word.Least, lost},
		{word.Least, minus(word.Least), word.Least, word.Least, lost},
		{word.Least, half, word.Least, 2, lost},
		{word.Least, minus(half), word.Least, 0, lost},
		{word.Least, half, 2, 2, lost},
		{word.Least, minus(word.Least), word.Small, word.Small, lost},
		{word.Least, word.Least, word.Small, word.Small, api.Inexact},
		{word.One, 0x3ca0000000000000, word.One + 1, word.One + 2, api.Inexact}, // 2^-53: half, to the even one
		{word.One, 0x3ca0000000000000, word.One, word.One, api.Inexact},
		{0x1ff0000000000000, 0x1ff0000000000000, word.One, word.One, api.Inexact},
		{word.Of(0x1p-26), word.Of(0x1p-27), word.One, word.One, api.Inexact},
		{word.Of(0x1p-26), word.Of(0x1p-27) + 1, word.One, word.One + 1, api.Inexact},     // a little more than half
		{word.Of(0x1p-26), word.Of(0x1p-27) - 1, word.One + 1, word.One + 1, api.Inexact}, // a little less
	} {
		checkFma(t, x.a, x.b, x.c, x.want, x.f)
		checkFma(t, x.a, minus(x.b), minus(x.c), minus(x.want), x.f)
	}
}

// wantedFma is the answer for numbers, told by exact ones.
func wantedFma(a, b, c uint64) (uint64, api.Flags) {
	product := new(big.Rat).Mul(exact(a), exact(b))
	total := new(big.Rat).Add(product, exact(c))
	switch {
	case total.Sign() != 0:
		return rounded(total)
	case product.Sign() != 0:
		return 0, 0
	}
	return soft.Add(word.Make(word.Neg(a) != word.Neg(b), 0, 0), c)
}

// P5.2: every three of the numbers at the edges.
func TestFmaEdgesAgainstExact(t *testing.T) {
	for _, a := range numbers() {
		for _, b := range numbers() {
			if a < b { // checkFma asks both ways
				continue
			}
			for _, c := range numbers() {
				want, f := wantedFma(a, b, c)
				checkFma(t, a, b, c, want, f)
			}
		}
	}
}

// nearProduct is a number whose exponent is near that of a product, so that they meet at every distance.
func nearProduct(r *rand.Rand, a, b uint64) uint64 {
	c := r.Uint64()
	product, _ := soft.Mul(a, b)
	switch r.Intn(4) {
	case 0: // nearly all is lost of what both begin with
		return word.Flip(product) + uint64(r.Intn(3)) - 1
	case 1:
		return word.Make(word.Neg(c), word.Exp(product), c)
	}
	exp := word.Exp(a) + word.Exp(b) - 1023 + r.Intn(260) - 130
	return word.Make(word.Neg(c), min(max(exp, 0), 2046), c)
}

// P5.2: numbers that meet at every distance, of many and of few bits.
func TestFmaAgainstExact(t *testing.T) {
	r := rand.New(rand.NewSource(52))
	for range 60000 {
		a, b := r.Uint64(), r.Uint64()
		switch r.Intn(4) {
		case 0: // a product among the least numbers
			a = word.Make(word.Neg(a), r.Intn(1100), a)
			b = word.Make(word.Neg(b), max(0, 1023-word.Exp(a)+r.Intn(120)-60), b)
		case 1:
			a = word.Make(word.Neg(a), 900+r.Intn(250), a)
			b = word.Make(word.Neg(b), 900+r.Intn(250), b)
		case 2:
			a = word.Make(word.Neg(a), 0, a>>r.Intn(60))
		}
		if r.Intn(2) == 0 {
			a &^= 1<<r.Intn(53) - 1
			b &^= 1<<r.Intn(53) - 1
		}
		c := nearProduct(r, a, b)
		if !word.Finite(a) || !word.Finite(b) || !word.Finite(c) {
			continue
		}
		want, f := wantedFma(a, b, c)
		checkFma(t, a, b, c, want, f)
	}
}

func checkScale(t *testing.T, a uint64, n int, want uint64, f api.Flags) {
	t.Helper()
	if b, g := Scale(a, n); b != want || g != f {
		t.Errorf("Scale(%x, %d) = %x, %d, want %x, %d", a, n, b, g, want, f)
	}
}

// far are powers of two beyond which all is the same.
func far() []int {
	return []int{10000, 10001, 1 << 31, 1 << 32, 1 << 40, math.MaxInt - 1074, math.MaxInt - 1, math.MaxInt}
}

// P5.3: what isn't scaled, and powers far off.
func TestScaleEdges(t *testing.T) {
	for _, n := range append(far(), 0, 1, -1, -1074, -10000, -1<<40, math.MinInt) {
		for _, a := range []uint64{0, word.Minus0, word.PosInf, word.NegInf} {
			checkScale(t, a, n, a, 0)
		}
		for _, a := range quiets() {
			checkScale(t, a, n, word.Quiet, 0)
		}
		for _, a := range signalling() {
			checkScale(t, a, n, word.Quiet, api.Invalid)
		}
	}
	for _, a := range []uint64{word.Least, word.Small, word.One, word.Most} {
		for _, n := range far() {
			checkScale(t, a, n, word.PosInf, above)
			checkScale(t, word.Flip(a), n, word.NegInf, above)
			checkScale(t, a, -n, 0, lost)
			checkScale(t, word.Flip(a), -n-1, word.Minus0, lost)
		}
		checkScale(t, a, math.MinInt, 0, lost)
	}
}

// P5.3
func TestScaleByHand(t *testing.T) {
	for _, x := range []struct {
		a    uint64
		n    int
		want uint64
		f    api.Flags
	}{
		{word.One, 0, word.One, 0}, {word.One, 1, two, 0}, {word.One, -1, half, 0}, {word.One, 1023, 0x7fe0000000000000, 0},
		{word.One, 1024, word.PosInf, above}, {word.One, -1022, word.Small, 0}, {word.One, -1074, word.Least, 0}, {word.One, -1075, 0, lost},
		{word.One, -1076, 0, lost}, {word.One + 1, -1075, word.Least, lost}, {word.Of(1.5), -1074, 2, lost}, {word.Of(1.5), -1075, word.Least, lost},
		{word.Least, 1074, word.One, 0}, {word.Least, 2097, 0x7fe0000000000000, 0}, {word.Least, 2098, word.PosInf, above},
		{word.Most, 1, word.PosInf, above}, {word.Most, -2046, word.Small, lost}, {word.Most, -2045, 0x001fffffffffffff, 0},
		{word.Most, -2098, word.Least, lost}, {word.Most, -2099, 0, lost}, {word.Small + 1, -1, word.Small >> 1, lost}, {word.Small + 3, -1, word.Small>>1 + 2, lost},
		{word.Small - 1, 1, 2*word.Small - 2, 0}, {3, -1, 2, lost}, {5, -1, 2, lost}, {7, -3, 1, lost},
	} {
		checkScale(t, x.a, x.n, x.want, x.f)
		checkScale(t, word.Flip(x.a), x.n, word.Flip(x.want), x.f)
	}
}

// P5.3: against exact numbers.
func TestScaleAgainstExact(t *testing.T) {
	r := rand.New(rand.NewSource(53))
	one := big.NewInt(1)
	for range 20000 {
		a := r.Uint64()
		n := r.Intn(4400) - 2200
		if r.Intn(2) == 0 { // among the least numbers
			n = r.Intn(120) - 60 - word.Exp(a)
		}
		if !word.Finite(a) || word.Abs(a) == 0 {
			continue
		}
		power := new(big.Rat).SetInt(new(big.Int).Lsh(one, uint(max(n, -n))))
		if n < 0 {
			power.Inv(power)
		}
		want, f := rounded(power.Mul(power, exact(a)))
		checkScale(t, a, n, want, f)
	}
}

// P5.3
func TestFromInt(t *testing.T) {
	all := []int64{0, 1, -1, 7, -7, math.MaxInt64, math.MaxInt64 - 1, math.MinInt64, math.MinInt64 + 1}
	for shift := range 63 {
		for _, by := range []int64{-3, -2, -1, 0, 1, 2, 3, 1 << 9, 1<<9 + 1, 1 << 10, 3 << 9, 3<<9 - 1} {
			n := int64(1)<<shift + by
			all = append(all, n, -n)
		}
	}
	r := rand.New(rand.NewSource(54))
	for range 20000 {
		all = append(all, int64(r.Uint64())>>r.Intn(64))
	}
	for _, n := range all {
		var want uint64
		var f api.Flags
		if n != 0 {
			want, f = rounded(new(big.Rat).SetInt64(n))
		}
		if want != word.Of(float64(n)) {
			t.Fatalf("what is wanted of %d", n)
		}
		if b, g := FromInt(n); b != want || g != f {
			t.Errorf("FromInt(%d) = %x, %d, want %x, %d", n, b, g, want, f)
		}
	}
	if b, f := FromInt(1<<53 + 1); b != word.Of(1<<53) || f != api.Inexact {
		t.Errorf("FromInt(2^53 + 1) = %x, %d", b, f)
	}
	if b, f := FromInt(math.MinInt64); b != 0xc3e0000000000000 || f != 0 {
		t.Errorf("FromInt(-2^63) = %x, %d", b, f)
	}
}

func checkToInt(t *testing.T, a uint64, want int64, f api.Flags) {
	t.Helper()
	if n, g := ToInt(a); n != want || g != f {
		t.Errorf("ToInt(%x) = %d, %d, want %d, %d", a, n, g, want, f)
	}
}

// P5.3: what isn't finite (a Nan that signals or not), what is too great, what is lost.
func TestToIntEdges(t *testing.T) {
	for _, a := range append(append(quiets(), signalling()...), word.PosInf, word.NegInf) {
		checkToInt(t, a, 0, api.Invalid)
	}
	for _, x := range []float64{
		1 << 63, 1<<63 + 1<<11, -(1<<63 + 1<<11), 1 << 64, -(1 << 64), 3 << 63, 0x1p117, -0x1p117, 0x1.8p127, 0x1p128, 0x1.8p180, math.MaxFloat64, -math.MaxFloat64,
	} {
		checkToInt(t, word.Of(x), 0, api.Invalid)
	}
	checkToInt(t, word.Of(-(1 << 63)), math.MinInt64, 0)
	checkToInt(t, word.Of(1<<63)-1, 1<<63-1<<10, 0)
	checkToInt(t, word.Of(-(1<<63))-1, -(1<<63 - 1<<10), 0)
	checkToInt(t, 0, 0, 0)
	checkToInt(t, word.Minus0, 0, 0)
	for _, x := range []struct {
		a    float64
		want int64
		f    api.Flags
	}{
		{5e-324, 0, api.Inexact}, {0x1p-1022, 0, api.Inexact}, {0.5, 0, api.Inexact}, {1 - 0x1p-53, 0, api.Inexact}, {1, 1, 0}, {1 + 0x1p-52, 1, api.Inexact},
		{1.5, 1, api.Inexact}, {2.5, 2, api.Inexact}, {5, 5, 0}, {1<<52 - 0.5, 1<<52 - 1, api.Inexact}, {1<<52 + 1, 1<<52 + 1, 0}, {1<<53 + 2, 1<<53 + 2, 0}, {1 << 62, 1 << 62, 0},
	} {
		checkToInt(t, word.Of(x.a), x.want, x.f)
		checkToInt(t, word.Of(-x.a), -x.want, x.f)
	}
}

// P5.3: each exponent, against exact numbers.
func TestToIntAgainstExact(t *testing.T) {
	r := rand.New(rand.NewSource(55))
	least, most := big.NewInt(math.MinInt64), big.NewInt(math.MaxInt64)
	for i := range 40000 {
		a := r.Uint64()
		exp := i % 2047
		if i%2 == 0 {
			exp = 1015 + r.Intn(80)
		}
		a = word.Make(word.Neg(a), exp, a&^(1<<r.Intn(53)-1))
		x := exact(a)
		whole := new(big.Int).Quo(x.Num(), x.Denom())
		if whole.Cmp(least) < 0 || whole.Cmp(most) > 0 {
			checkToInt(t, a, 0, api.Invalid)
			continue
		}
		var f api.Flags
		if !x.IsInt() {
			f = api.Inexact
		}
		checkToInt(t, a, whole.Int64(), f)
	}
}
