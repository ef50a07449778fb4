package plane

import (
	"math"
	"math/rand"
	"testing"

	"gimbal/api"
	"gimbal/dyad"
	"gimbal/soft"
	"gimbal/vec"
	"gimbal/word"
)

const signals = 0x7ff0000000000001

func edges() []uint64 {
	return []uint64{
		0, word.Minus0, word.Least, word.Flip(word.Least), 2, 3, word.Small, word.Small - 1, word.One, word.Flip(word.One), word.Of(1.5), word.Of(-0.1),
		word.Most, word.Flip(word.Most), word.Of(0x1p1023), word.PosInf, word.NegInf, word.Quiet, word.Flip(word.Quiet), signals, math.MaxUint64,
	}
}

func anyPattern(r *rand.Rand) uint64 {
	switch r.Intn(4) {
	case 0:
		return edges()[r.Intn(len(edges()))]
	case 1:
		return r.Uint64()
	}
	return word.Of(r.NormFloat64())
}

// plain is a number whose power of two is about some one, and differs from it by no more than so many.
func plain(r *rand.Rand, about, most int) uint64 {
	b := word.Of(math.Ldexp(r.NormFloat64(), about+r.Intn(2*most+1)-most))
	if !word.Finite(b) {
		return word.Sign(word.Most, b)
	}
	return b
}

// abouts are the powers of two about which numbers are taken: where squares are beyond all, where they are beneath, and between.
func abouts() []int { return []int{0, 0, 1000, 1022, -1000, -1022, -1060, -1072} }

// num is a pattern's number, exactly.
func num(b uint64) dyad.Num {
	n, _ := dyad.Of(b)
	return n
}

func square(n dyad.Num) dyad.Num { return n.Mul(n) }

// isWithin tells whether a square is at most that of so many times 2^-53, times another one.
func isWithin(n dyad.Num, many int, of dyad.Num) bool {
	return n.Cmp(square(dyad.Int(many).Mul(dyad.Two(-53))).Mul(of)) <= 0
}

// flagsFit tells whether a scaled number may have these flags.
func flagsFit(b uint64, f api.Flags) bool {
	switch {
	case word.Kind(b) == word.Inf:
		return f&api.Over != 0
	case word.Kind(b) == word.Nan:
		return false
	}
	return f&api.Over == 0 && (f&api.Under == 0 || word.Abs(b) <= word.Small)
}

// P14.1: plus infinity, whatever stands beside an infinity; else layer 10's Nrm2.
func TestHypot(t *testing.T) {
	if h, f := Hypot(word.Of(3), word.Of(-4)); h != word.Of(5) || f != 0 {
		t.Errorf("Hypot %x, flags %d", h, f)
	}
	hold := func(a, b uint64) {
		t.Helper()
		var c soft.Calc
		want := vec.Nrm2(&c, []uint64{a, b})
		if word.Kind(a) == word.Inf || word.Kind(b) == word.Inf {
			want, c.F = word.PosInf, 0
		}
		if h, f := Hypot(a, b); h != want || f != c.F {
			t.Errorf("Hypot(%x, %x) = %x, flags %d; want %x, flags %d", a, b, h, f, want, c.F)
		}
	}
	for _, a := range edges() {
		for _, b := range edges() {
			hold(a, b)
		}
	}
	r := rand.New(rand.NewSource(141))
	for round := range 1000 {
		hold(anyPattern(r), anyPattern(r))
		about := abouts()[round%len(abouts())]
		hold(plain(r, about, 20), plain(r, about, 20))
	}
}

// holdGivens holds Givens against its promise, of a b that isn't a zero.
func holdGivens(t *testing.T, a, b uint64) (Turn, uint64, api.Flags) {
	t.Helper()
	turn, r, f, e := Givens(a, b)
	if e != api.OK || word.Abs(turn.C) > word.One || word.Abs(turn.S) > word.One {
		t.Fatalf("Givens(%x, %x) = %x, %d", a, b, turn, e)
	}
	cosine, sine := num(turn.C), num(turn.S)
	if miss := square(cosine).Add(square(sine)).Sub(dyad.Int(1)); !isWithin(square(miss), 16, dyad.Int(1)) {
		t.Fatalf("Givens(%x, %x) = %x is no turn", a, b, turn)
	}
	if !flagsFit(r, f) {
		t.Fatalf("Givens(%x, %x): %x, flags %d", a, b, r, f)
	}
	if f&(api.Over|api.Under) == 0 {
		size := square(num(a)).Add(square(num(b)))
		first := cosine.Mul(num(a)).Add(sine.Mul(num(b))).Sub(num(r))
		second := cosine.Mul(num(b)).Sub(sine.Mul(num(a)))
		if !isWithin(square(first), 16, size) || !isWithin(square(second), 16, size) {
			t.Fatalf("Givens(%x, %x) = %x, %x misses", a, b, turn, r)
		}
	}
	if again, s, g, _ := Givens(a, b); again != turn || s != r || g != f {
		t.Fatalf("Givens(%x, %x) isn't always the same", a, b)
	}
	return turn, r, f
}

// P14.2: the document's example, and numbers of all sizes.
func TestGivens(t *testing.T) {
	turn, r, f := holdGivens(t, word.Of(3), word.Of(4))
	c, s := word.Float(turn.C), word.Float(turn.S)
	if math.Abs(word.Float(r)-5) > 1e-14 || math.Abs(c-0.6) > 1e-15 || math.Abs(s-0.8) > 1e-15 || f&(api.Over|api.Under) != 0 {
		t.Errorf("Givens(3, 4) = %g, %g, %g, flags %d", c, s, word.Float(r), f)
	}
	random := rand.New(rand.NewSource(142))
	for round := range 4000 {
		about := abouts()[round%len(abouts())]
		most := []int{0, 3, 60, 600, 2100}[random.Intn(5)]
		if b := plain(random, about, most); word.Abs(b) != 0 {
			holdGivens(t, plain(random, about, most), b)
		}
	}
	for _, a := range edges() {
		for _, b := range edges() {
			if word.Finite(a) && word.Finite(b) && word.Abs(b) != 0 {
				holdGivens(t, a, b)
			}
		}
	}
}

// P14.2: with a b that is a zero of either sign a itself, whatever number that is.
func TestGivensOfZero(t *testing.T) {
	for _, a := range edges() {
		for _, b := range []uint64{0, word.Minus0} {
			if !word.Finite(a) {
				continue
			}
			if turn, r, f, e := Givens(a, b); turn != (Turn{C: word.One}) || r != a || f != 0 || e != api.OK {
				t.Errorf("Givens(%x, %x) = %x, %x, flags %d, %d", a, b, turn, r, f, e)
			}
		}
	}
}

// P14.2: an r that is beyond all, or can't be told beneath: the turn is one all the same.
func TestGivensFlags(t *testing.T) {
	for i, l := range []struct {
		a, b uint64
		want api.Flags
	}{
		{word.Most, word.Most, api.Over}, {word.Flip(word.Most), word.Of(0x1p1023), api.Over}, {word.Of(0x1.8p1023), word.Of(-0x1.8p1023), api.Over},
		{word.Of(0x1p1023), word.Of(0x1p1023), 0}, {0, word.Of(-0x1p1023), 0},
		{1, 1, api.Under}, {word.Flip(1), 2, api.Under}, {word.Flip(3), word.Flip(1), api.Under},
		{word.Small, word.Small, 0}, {word.Of(0.1), word.Of(0.3), 0}, {word.Of(1e300), word.Of(1e-300), 0}, {word.Of(1e-300), word.Of(1e-300), 0},
	} {
		if _, r, f := holdGivens(t, l.a, l.b); f&(api.Over|api.Under) != l.want {
			t.Errorf("%d: Givens(%x, %x): %x, flags %d; want %d", i, l.a, l.b, r, f, l.want)
		}
	}
}

// P14.2: what isn't finite, on either side, also beside a zero.
func TestGivensErrors(t *testing.T) {
	for _, a := range edges() {
		for _, b := range edges() {
			if word.Finite(a) && word.Finite(b) {
				continue
			}
			if turn, r, f, e := Givens(a, b); turn != (Turn{}) || r != 0 && r != word.Quiet || f != 0 || e != api.ErrPlain {
				t.Errorf("Givens(%x, %x) = %x, %x, flags %d, %d", a, b, turn, r, f, e)
			}
		}
	}
}

// P14.2: Of, step by step, of all patterns, with the flags of these steps.
func TestOf(t *testing.T) {
	if a, b := (Turn{C: word.One, S: word.Of(2)}).Of(nil, word.Of(3), word.Of(5)); a != word.Of(13) || b != word.Of(-1) {
		t.Errorf("Of %g %g", word.Float(a), word.Float(b))
	}
	r := rand.New(rand.NewSource(143))
	for range 5000 {
		turn := Turn{C: anyPattern(r), S: anyPattern(r)}
		x, y := anyPattern(r), anyPattern(r)
		want, c := &soft.Calc{F: api.ByZero}, &soft.Calc{F: api.ByZero}
		sum := want.Add(want.Mul(turn.C, x), want.Mul(turn.S, y))
		difference := want.Sub(want.Mul(turn.C, y), want.Mul(turn.S, x))
		a, b := turn.Of(c, x, y)
		if a != sum || b != difference || c.F != want.F {
			t.Fatalf("%x of %x, %x: %x, %x, flags %d; want %x, %x, flags %d", turn, x, y, a, b, c.F, sum, difference, want.F)
		}
		if a2, b2 := turn.Of(nil, x, y); a2 != a || b2 != b {
			t.Fatal("another answer without a Calc")
		}
	}
}
