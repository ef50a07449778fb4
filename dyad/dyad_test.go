package dyad

import (
	"math"
	"math/big"
	"math/rand"
	"slices"
	"testing"

	"gimbal/api"
	"gimbal/word"
)

const (
	lost  = api.Inexact | api.Under
	above = api.Inexact | api.Over
)

// patterns are at the bounds of each kind, of both signs; all of them finite.
func patterns() []uint64 {
	var out []uint64
	for _, b := range []uint64{
		0, word.Least, 2, 3, 1 << 51, word.Small - 1, word.Small, word.Small + 1, 2 * word.Small, 0x1ff0000000000000, 0x3c90000000000001,
		0x3fe0000000000000, word.One - 1, word.One, word.One + 1, word.Of(3), word.Of(0.1), word.Of(1 << 53), word.Of(1 << 63), word.Of(1 << 64),
		0x5fefffffffffffff, 0x7fe0000000000000, word.Most - 1, word.Most,
	} {
		out = append(out, b, word.Flip(b))
	}
	return out
}

// of is the number of a finite pattern.
func of(t *testing.T, b uint64) Num {
	t.Helper()
	n, ok := Of(b)
	if !ok {
		t.Fatalf("Of(%x) is none", b)
	}
	return n
}

// exact is a number as Go's exact one, of what has an exponent of a usual size; it also looks at the form.
func exact(t *testing.T, a Num) *big.Rat {
	t.Helper()
	checkForm(t, a)
	whole := new(big.Int)
	for i := range a.words {
		whole.Lsh(whole, 64)
		whole.Or(whole, new(big.Int).SetUint64(a.words[len(a.words)-1-i]))
	}
	if a.neg {
		whole.Neg(whole)
	}
	return new(big.Rat).Mul(new(big.Rat).SetInt(whole), twoTo(64*int(a.at.low)))
}

// checkForm tells whether a number has the one form that it must have.
func checkForm(t *testing.T, a Num) {
	t.Helper()
	n := len(a.words)
	if n == 0 && (a.neg || a.at.sign() != 0) || n > 0 && (a.words[0] == 0 || a.words[n-1] == 0) {
		t.Fatalf("not the form of a number: %+v", a)
	}
}

func twoTo(e int) *big.Rat {
	power := new(big.Int).Lsh(big.NewInt(1), uint(max(e, -e)))
	if e < 0 {
		return new(big.Rat).SetFrac(big.NewInt(1), power)
	}
	return new(big.Rat).SetInt(power)
}

func ratOf(b uint64) *big.Rat { return new(big.Rat).SetFloat64(word.Float(b)) }

// some is a number of many words, or of few, by sums and products of patterns; and Go's exact one.
func some(t *testing.T, r *rand.Rand) (Num, *big.Rat) {
	t.Helper()
	a, x := Num{}, new(big.Rat)
	spread := []int{1, 60, 200, 1000, 2047}[r.Intn(5)]
	for range r.Intn(5) {
		b := word.Make(r.Intn(2) == 0, 1023+r.Intn(spread)-spread/2, r.Uint64()>>r.Intn(64))
		c := word.Make(r.Intn(2) == 0, 1023+r.Intn(spread)-spread/2, r.Uint64()<<r.Intn(64))
		if !word.Finite(b) || !word.Finite(c) {
			continue
		}
		a = a.Add(of(t, b).Mul(of(t, c)))
		x.Add(x, new(big.Rat).Mul(ratOf(b), ratOf(c)))
	}
	return a, x
}

func checkExact(t *testing.T, name string, a Num, want *big.Rat) {
	t.Helper()
	if got := exact(t, a); got.Cmp(want) != 0 {
		t.Fatalf("%s: %s, want %s", name, got, want)
	}
	if a.Sign() != want.Sign() {
		t.Fatalf("%s: Sign %d, want %d", name, a.Sign(), want.Sign())
	}
}

// P7.1: the zero Num is 0.
func TestZero(t *testing.T) {
	var zero Num
	one := Int(1)
	for name, a := range map[string]Num{"Int": Int(0), "Neg": zero.Neg(), "Abs": zero.Abs(), "Add": zero.Add(zero), "Sub": zero.Sub(zero), "Mul": zero.Mul(one), "by": one.Neg().Mul(zero), "rest": one.Sub(one)} {
		checkExact(t, name, a, new(big.Rat))
		if !a.Same(zero) || !zero.Same(a) || a.Cmp(one) != -1 || one.Cmp(a) != 1 || a.Cmp(one.Neg()) != 1 || one.Neg().Cmp(a) != -1 {
			t.Errorf("%s isn't 0", name)
		}
	}
	for _, a := range []Num{one, one.Neg(), Two(-1000), Two(70).Neg()} {
		if !a.Add(zero).Same(a) || !zero.Add(a).Same(a) || !a.Sub(zero).Same(a) || !zero.Sub(a).Same(a.Neg()) || a.Same(zero) {
			t.Errorf("0 and %+v", a)
		}
	}
}

// P7.1: patterns that are finite, and those that aren't.
func TestOf(t *testing.T) {
	for _, b := range patterns() {
		checkExact(t, "Of", of(t, b), ratOf(b))
	}
	r := rand.New(rand.NewSource(71))
	for range 20000 {
		b := r.Uint64()
		if word.Finite(b) {
			checkExact(t, "Of", of(t, b), ratOf(b))
		}
	}
	for _, b := range []uint64{word.PosInf, word.NegInf, word.Quiet, word.Flip(word.Quiet), word.PosInf + 1, math.MaxUint64} {
		if a, ok := Of(b); ok || a.Sign() != 0 || !a.Same(Num{}) {
			t.Errorf("Of(%x) = %+v, %t", b, a, ok)
		}
	}
}

// P7.1: whole numbers, up to both ends of int.
func TestInt(t *testing.T) {
	for _, n := range []int{0, 1, -1, 2, -6, 7, 1 << 32, 1<<53 + 1, -(1<<53 + 1), 1 << 62, math.MaxInt, -math.MaxInt, math.MinInt} {
		checkExact(t, "Int", Int(n), new(big.Rat).SetInt64(int64(n)))
	}
	r := rand.New(rand.NewSource(72))
	for range 5000 {
		n := int(r.Uint64()) >> r.Intn(64)
		checkExact(t, "Int", Int(n), new(big.Rat).SetInt64(int64(n)))
	}
}

// P7.1: powers of two, and the bounds of the exponent.
func TestTwo(t *testing.T) {
	for e := -300; e <= 300; e++ {
		checkExact(t, "Two", Two(e), twoTo(e))
	}
	const most = 1 << 20
	for _, e := range []int{most, most - 1, 1 - most, -most, 12345, -99999} {
		checkExact(t, "Two", Two(e), twoTo(e))
	}
	for _, e := range []int{most + 1, most + 64, 1 << 40, math.MaxInt} {
		if !Two(e).Same(Two(most)) || !Two(-e).Same(Two(-most)) {
			t.Errorf("Two(%d)", e)
		}
	}
	if !Two(math.MinInt).Same(Two(-most)) || Two(most).Same(Two(most-1)) || Two(-most).Same(Two(1-most)) {
		t.Error("Two at its bounds")
	}
}

// P7.1: all that is reckoned, against Go's exact numbers.
func TestExact(t *testing.T) {
	r := rand.New(rand.NewSource(73))
	for range 3000 {
		a, x := some(t, r)
		b, y := some(t, r)
		switch r.Intn(4) {
		case 0: // nearly the same, so that little is left
			b, y = a.Add(Two(-1000)), new(big.Rat).Add(x, twoTo(-1000))
		case 1:
			b, y = a.Neg(), new(big.Rat).Neg(x)
		}
		checkExact(t, "Neg", a.Neg(), new(big.Rat).Neg(x))
		checkExact(t, "Abs", a.Abs(), new(big.Rat).Abs(x))
		checkExact(t, "Add", a.Add(b), new(big.Rat).Add(x, y))
		checkExact(t, "Sub", a.Sub(b), new(big.Rat).Sub(x, y))
		checkExact(t, "Mul", a.Mul(b), new(big.Rat).Mul(x, y))
		checkExact(t, "a", a, x) // neither is changed
		checkExact(t, "b", b, y)
		if want := x.Cmp(y); a.Cmp(b) != want || b.Cmp(a) != -want || a.Same(b) != (want == 0) || a.Cmp(a) != 0 {
			t.Fatalf("Cmp(%s, %s) = %d", x, y, a.Cmp(b))
		}
	}
}

// P7.1: what is carried, or borrowed, runs through words that are all ones, or all zeros.
func TestCarry(t *testing.T) {
	for n := 1; n < 400; n++ {
		ones := Two(n).Sub(Int(1))
		checkExact(t, "ones", ones, new(big.Rat).Sub(twoTo(n), twoTo(0)))
		if !ones.Add(Int(1)).Same(Two(n)) || !ones.Neg().Sub(Int(1)).Same(Two(n).Neg()) {
			t.Errorf("2^%d - 1 and 1", n)
		}
		square := Two(2 * n).Sub(Two(n + 1)).Add(Int(1))
		if !ones.Mul(ones).Same(square) || !ones.Neg().Mul(ones).Same(square.Neg()) {
			t.Errorf("2^%d - 1 squared", n)
		}
		small := Int(1).Sub(Two(-n))
		if !small.Add(Two(-n)).Same(Int(1)) || small.Cmp(Int(1)) != -1 || small.Neg().Cmp(Int(-1)) != 1 {
			t.Errorf("1 less 2^-%d", n)
		}
	}
}

// P7.1: from one end of Two to the other.
func TestFarApart(t *testing.T) {
	great, small := Two(1<<20), Two(-1<<20)
	sum := great.Add(small)
	if !sum.Sub(great).Same(small) || !sum.Sub(small).Same(great) || sum.Cmp(great) != 1 || great.Sub(small).Cmp(great) != -1 {
		t.Error("Add")
	}
	if !great.Mul(small).Same(Int(1)) || !sum.Mul(great.Sub(small)).Same(great.Mul(great).Sub(small.Mul(small))) {
		t.Error("Mul")
	}
	if b, f := sum.Near(); b != word.PosInf || f != above || sum.Neg().Up() != word.Flip(word.Most) {
		t.Errorf("Near %x", b)
	}
}

// P7.1: exponents beyond every integer of Go's: they don't wrap round.
func TestPowersWithoutEnd(t *testing.T) {
	most, least := Two(1<<20), Two(-1<<20)
	up, down := most, least
	for n := range 300 {
		great, small := up.Mul(Int(3)), down.Mul(Int(3))
		greater, smaller := great.Mul(most), small.Mul(least)
		if greater.Cmp(great) != 1 || great.Cmp(greater) != -1 || greater.Neg().Cmp(great.Neg()) != -1 || greater.Same(great) {
			t.Fatalf("Cmp at %d, up", n)
		}
		if smaller.Cmp(small) != -1 || small.Cmp(smaller) != 1 || smaller.Neg().Cmp(small.Neg()) != 1 || smaller.Same(small) {
			t.Fatalf("Cmp at %d, down", n)
		}
		if !great.Mul(small).Same(Int(9)) || !greater.Mul(least).Same(great) || !smaller.Mul(most).Same(small) {
			t.Fatalf("Mul at %d", n)
		}
		if great.Sub(great).Sign() != 0 || !great.Add(great).Same(great.Mul(Int(2))) || !smaller.Add(small.Sub(smaller)).Same(small) {
			t.Fatalf("Add at %d", n)
		}
		checkFarPatterns(t, great, small)
		up, down = up.Mul(up), down.Mul(down)
		if n%2 == 0 { // exponents with more than one bit, too
			up, down = up.Mul(most), down.Mul(least)
		}
	}
}

func checkFarPatterns(t *testing.T, great, small Num) {
	t.Helper()
	if b, f := great.Near(); b != word.PosInf || f != above {
		t.Fatalf("Near %x, %d", b, f)
	}
	if b, f := great.Neg().Near(); b != word.NegInf || f != above {
		t.Fatalf("Near %x, %d", b, f)
	}
	if b, f := small.Near(); b != 0 || f != lost {
		t.Fatalf("Near %x, %d", b, f)
	}
	if b, f := small.Neg().Near(); b != word.Minus0 || f != lost {
		t.Fatalf("Near %x, %d", b, f)
	}
	if great.Up() != word.PosInf || great.Neg().Up() != word.Flip(word.Most) || small.Up() != word.Least || small.Neg().Up() != word.Minus0 {
		t.Fatal("Up")
	}
	if great.RootUp() != word.PosInf || small.RootUp() != word.Least || great.Neg().RootUp() != word.Quiet || small.Neg().RootUp() != word.Quiet {
		t.Fatal("RootUp")
	}
}

// Beyond what the document promises anything of, a call ends still.
func TestTooLong(t *testing.T) {
	great := Two(1 << 20)
	for range 30 {
		great = great.Mul(great)
	}
	for _, a := range []Num{great.Add(Int(1)), Int(1).Add(great), great.Sub(Int(1)), Int(1).Sub(great)} {
		checkForm(t, a)
	}
}

// What comes of a number lies in memory of its own.
func TestNewMemory(t *testing.T) {
	zero := Num{}
	great := Two(1 << 20)
	for range 70 {
		great = great.Mul(great)
	}
	for _, a := range []Num{Int(5), Two(100).Add(Two(-100)), great} {
		for name, b := range map[string]Num{"Neg": a.Neg(), "Abs": a.Abs(), "Add": a.Add(zero), "of 0": zero.Add(a), "Sub": a.Sub(zero), "from 0": zero.Sub(a), "Mul": a.Mul(Int(1))} {
			before := Num{neg: a.neg, words: slices.Clone(a.words), at: a.at.clone()}
			for i := range b.words {
				b.words[i]++
			}
			for i := range b.at.high {
				b.at.high[i]++
			}
			if !a.Same(before) {
				t.Errorf("%s shares memory", name)
			}
		}
	}
}
