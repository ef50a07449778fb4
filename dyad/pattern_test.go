package dyad

import (
	"math"
	"math/big"
	"math/rand"
	"testing"

	"gimbal/api"
	"gimbal/word"
)

// rounded is the pattern nearest to an exact number, and the flags, by Go's own rounding.
func rounded(x *big.Rat) (uint64, api.Flags) {
	number, _ := x.Float64()
	b := word.Of(number)
	if number == 0 {
		b = word.Make(x.Sign() < 0, 0, 0)
	}
	switch {
	case math.IsInf(number, 0):
		return b, above
	case x.Cmp(ratOf(b)) == 0:
		return b, 0
	case new(big.Rat).Abs(x).Cmp(ratOf(word.Small)) < 0:
		return b, lost
	}
	return b, api.Inexact
}

func checkNear(t *testing.T, a Num, want uint64, f api.Flags) {
	t.Helper()
	if b, g := a.Near(); b != want || g != f {
		t.Errorf("Near of %+v = %x, %d, want %x, %d", a, b, g, want, f)
	}
}

func checkUp(t *testing.T, a Num, want uint64) {
	t.Helper()
	if b := a.Up(); b != want {
		t.Errorf("Up of %+v = %x, want %x", a, b, want)
	}
}

// P7.2: the document's example, and patterns, which are their own.
func TestNearAndUpByHand(t *testing.T) {
	a := Int(1).Add(Two(-60))
	checkNear(t, a, word.One, api.Inexact)
	checkUp(t, a, word.Next(word.One))
	checkUp(t, a.Neg(), word.Flip(word.One))
	checkNear(t, Num{}, 0, 0)
	checkUp(t, Num{}, 0)
	for _, b := range patterns() {
		want := b
		if b == word.Minus0 {
			want = 0
		}
		checkNear(t, of(t, b), want, 0)
		checkUp(t, of(t, b), want)
	}
	tenth := of(t, word.Of(0.1))
	checkNear(t, tenth.Add(tenth).Add(tenth), word.Of(0.30000000000000004), api.Inexact)
	checkNear(t, Int(1<<53+1), word.Of(1<<53), api.Inexact)
	checkNear(t, Int(1<<53+3), word.Of(1<<53+4), api.Inexact)
	checkUp(t, Int(1<<53+1), word.Of(1<<53+2))
	checkUp(t, Int(-(1<<53 + 1)), word.Of(-(1 << 53)))
}

// P7.2: from Most on.
func TestNearAndUpAbove(t *testing.T) {
	most := of(t, word.Most)
	edge := Two(1024).Sub(Two(970)) // half of the way to 2^1024
	tiny := Two(-3000)
	for _, x := range []struct {
		a        Num
		near, up uint64
		f        api.Flags
	}{
		{most, word.Most, word.Most, 0},
		{most.Add(tiny), word.Most, word.PosInf, api.Inexact},
		{most.Sub(tiny), word.Most, word.Most, api.Inexact},
		{edge.Sub(tiny), word.Most, word.PosInf, api.Inexact},
		{edge, word.PosInf, word.PosInf, above},
		{edge.Add(tiny), word.PosInf, word.PosInf, above},
		{Two(1024), word.PosInf, word.PosInf, above},
		{Two(1 << 20), word.PosInf, word.PosInf, above},
	} {
		checkNear(t, x.a, x.near, x.f)
		checkUp(t, x.a, x.up)
		checkNear(t, x.a.Neg(), word.Flip(x.near), x.f)
	}
	for _, a := range []Num{most, most.Add(tiny), edge, Two(1024), Two(1 << 20)} {
		checkUp(t, a.Neg(), word.Flip(word.Most))
	}
	checkUp(t, most.Sub(tiny).Neg(), word.Next(word.Flip(word.Most)))
}

// P7.2: about zero, where Up answers either zero.
func TestNearAndUpBeneath(t *testing.T) {
	least := of(t, word.Least)
	tiny := Two(-1 << 20)
	half := Two(-1075)
	minusLeast := word.Flip(word.Least)
	for _, x := range []struct {
		a                   Num
		near, up, upOfMinus uint64
	}{
		{tiny, 0, word.Least, word.Minus0},
		{half.Sub(tiny), 0, word.Least, word.Minus0},
		{half, 0, word.Least, word.Minus0},
		{half.Add(tiny), word.Least, word.Least, word.Minus0},
		{least.Sub(tiny), word.Least, word.Least, word.Minus0},
		{least.Add(tiny), word.Least, 2, minusLeast},
		{least.Add(half), 2, 2, minusLeast},
		{of(t, word.Small).Sub(half), word.Small, word.Small, word.Flip(word.Small - 1)},
		{of(t, word.Small).Sub(tiny), word.Small, word.Small, word.Flip(word.Small - 1)},
	} {
		checkNear(t, x.a, x.near, lost)
		checkNear(t, x.a.Neg(), word.Flip(x.near), lost)
		checkUp(t, x.a, x.up)
		checkUp(t, x.a.Neg(), x.upOfMinus)
	}
	checkNear(t, of(t, word.Small).Add(tiny), word.Small, api.Inexact)
}

// byWords is Up as the document says it: the pattern isn't beneath the number, and the one before it is.
func byWords(t *testing.T, a Num, b uint64) {
	t.Helper()
	x := exact(t, a)
	bad := b == word.NegInf || word.Kind(b) == word.Nan
	if b != word.PosInf && !bad {
		bad = ratOf(b).Cmp(x) < 0
	}
	if under := word.Prev(b); !bad && word.Finite(under) {
		bad = ratOf(under).Cmp(x) >= 0
	}
	if bad || x.Sign() > 0 && word.Neg(b) || x.Sign() < 0 && !word.Neg(b) {
		t.Fatalf("Up of %s = %x", x, b)
	}
}

// nearPattern is a number at a pattern, or at half of the way to the next, or a little beside that.
func nearPattern(t *testing.T, r *rand.Rand) Num {
	t.Helper()
	b := r.Uint64()
	if r.Intn(3) == 0 {
		b = word.Make(word.Neg(b), r.Intn(3), b)
	}
	if !word.Finite(b) {
		b = word.Flip(word.Most)
	}
	a := of(t, b)
	if next := word.Next(b); word.Finite(next) && r.Intn(3) > 0 {
		a = a.Add(of(t, next)).Mul(Two(-1))
	}
	switch r.Intn(3) {
	case 0:
		return a.Add(Two(-1080 - r.Intn(1000)))
	case 1:
		return a.Sub(Two(-1080 - r.Intn(1000)))
	}
	return a
}

// P7.2: against Go's rounding, and by the document's words.
func TestNearAndUp(t *testing.T) {
	r := rand.New(rand.NewSource(74))
	for i := range 20000 {
		a := nearPattern(t, r)
		if i%2 == 0 {
			a, _ = some(t, r)
		}
		want, f := rounded(exact(t, a))
		checkNear(t, a, want, f)
		if a.Sign() != 0 {
			byWords(t, a, a.Up())
			byWords(t, a.Neg(), a.Neg().Up())
		}
		if t.Failed() {
			t.FailNow()
		}
	}
}

func checkRoot(t *testing.T, a Num, want uint64) {
	t.Helper()
	if b := a.RootUp(); b != want {
		t.Errorf("RootUp of %+v = %x, want %x", a, b, want)
	}
}

// P7.2: roots that are patterns, what has none, and both ends.
func TestRootUpByHand(t *testing.T) {
	checkRoot(t, Num{}, 0)
	checkRoot(t, Int(49), word.Of(7))
	checkRoot(t, Two(-2000), word.Of(0x1p-1000))
	checkRoot(t, Int(2), word.Of(math.Sqrt2)) // which is rounded up, as that of 5 is; that of 3 is rounded down
	checkRoot(t, Int(3), word.Of(math.Nextafter(math.Sqrt(3), 2)))
	checkRoot(t, Int(5), word.Of(math.Sqrt(5)))
	for _, a := range []Num{Int(-1), Int(-49), Two(-1 << 20).Neg(), Two(1 << 20).Neg(), of(t, word.Flip(word.Least))} {
		checkRoot(t, a, word.Quiet)
	}
	tiny := Two(-1 << 20)
	for _, b := range patterns() {
		if word.Neg(b) || b == 0 {
			continue
		}
		square := of(t, b).Mul(of(t, b))
		checkRoot(t, square, b)
		checkRoot(t, square.Sub(tiny), b)
		checkRoot(t, square.Add(tiny), word.Next(b))
	}
	checkRoot(t, tiny.Mul(tiny), word.Least)
	checkRoot(t, Two(2048), word.PosInf)
	checkRoot(t, Two(1<<20), word.PosInf)
	checkRoot(t, Two(1022), word.Of(0x1p511))
}

// P7.2: by the document's words, and the least pattern of all that may be.
func TestRootUp(t *testing.T) {
	r := rand.New(rand.NewSource(75))
	for i := range 20000 {
		a := nearPattern(t, r).Abs()
		switch i % 3 {
		case 0:
			a, _ = some(t, r)
			a = a.Abs()
		case 1: // a square, or a little beside it
			a = a.Mul(a).Add(Two(-2300 - r.Intn(1000)).Mul(Int(r.Intn(3) - 1))).Abs()
		}
		b := a.RootUp()
		x := exact(t, a)
		if b != word.PosInf && (word.Neg(b) || !word.Finite(b) || new(big.Rat).Mul(ratOf(b), ratOf(b)).Cmp(x) < 0) {
			t.Fatalf("RootUp of %s = %x", x, b)
		}
		if under := ratOf(word.Prev(b)); a.Sign() > 0 && under.Mul(under, under).Cmp(x) >= 0 {
			t.Fatalf("RootUp of %s = %x isn't the least", x, b)
		}
	}
}
