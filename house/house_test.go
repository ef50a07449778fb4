package house

import (
	"math"
	"math/rand"
	"slices"
	"testing"

	"gimbal/api"
	"gimbal/dyad"
	"gimbal/word"
)

const signals = 0x7ff0000000000001

func nums(all ...float64) []uint64 {
	var out []uint64
	for _, x := range all {
		out = append(out, word.Of(x))
	}
	return out
}

func edges() []uint64 {
	return []uint64{
		0, word.Minus0, word.Least, word.Flip(word.Least), word.Small, word.One, word.Flip(word.One), word.Of(1.5), word.Of(0.1),
		word.Most, word.Flip(word.Most), word.PosInf, word.NegInf, word.Quiet, word.Flip(word.Quiet), signals,
	}
}

func anyList(r *rand.Rand, n int) []uint64 {
	out := make([]uint64, n)
	for i := range out {
		switch r.Intn(4) {
		case 0:
			out[i] = edges()[r.Intn(len(edges()))]
		case 1:
			out[i] = r.Uint64()
		default:
			out[i] = word.Of(r.NormFloat64())
		}
	}
	return out
}

// plain are numbers whose powers of two are about some one, and differ from it by no more than so many.
func plain(r *rand.Rand, n, about, most int) []uint64 {
	out := make([]uint64, n)
	for i := range out {
		out[i] = word.Of(math.Ldexp(r.NormFloat64(), about+r.Intn(2*most+1)-most))
		if !word.Finite(out[i]) {
			out[i] = word.Sign(word.Most, out[i])
		}
	}
	return out
}

// num is a pattern's number, exactly.
func num(b uint64) dyad.Num {
	n, _ := dyad.Of(b)
	return n
}

// parts is so many times 2^-53.
func parts(n int) dyad.Num { return dyad.Int(n).Mul(dyad.Two(-53)) }

func squares(all []dyad.Num) dyad.Num {
	var sum dyad.Num
	for _, n := range all {
		sum = sum.Add(n.Mul(n))
	}
	return sum
}

func exactly(list []uint64) []dyad.Num {
	var out []dyad.Num
	for _, b := range list {
		out = append(out, num(b))
	}
	return out
}

// reflected is I - Tau v v^T times some numbers, exactly.
func reflected(r Ref, x []dyad.Num) []dyad.Num {
	var sum dyad.Num
	for i, v := range r.V {
		sum = sum.Add(num(v).Mul(x[i]))
	}
	sum = num(r.Tau).Mul(sum)
	var out []dyad.Num
	for i, v := range r.V {
		out = append(out, x[i].Sub(num(v).Mul(sum)))
	}
	return out
}

// areZeros is of zeros of both signs.
func areZeros(list []uint64) bool {
	return !slices.ContainsFunc(list, func(b uint64) bool { return word.Abs(b) != 0 })
}

// isTail tells whether Tau must be a zero, by the numbers' values alone.
func isTail(x []uint64) bool {
	power := func(list []uint64) int {
		most := -5000
		for _, b := range list {
			if word.Abs(b) != 0 {
				_, e := math.Frexp(word.Float(b))
				most = max(most, e)
			}
		}
		return most
	}
	return areZeros(x[1:]) || power(x[1:]) < power(x)-400
}

// holdGen holds Gen against its promise, and answers what it tells.
func holdGen(t *testing.T, x []uint64) (Ref, uint64, api.Flags) {
	t.Helper()
	was := slices.Clone(x)
	r, beta, f, e := Gen(x)
	if e != api.OK || len(r.V) != len(x) || r.V[0] != word.One {
		t.Fatalf("Gen(%x) = %x, %x, %d", x, r, beta, e)
	}
	if isTail(x) {
		if word.Abs(r.Tau) != 0 || beta != x[0] || !areZeros(r.V[1:]) || f != 0 {
			t.Fatalf("Gen(%x) = %x, %x, flags %d; want no reflection", x, r, beta, f)
		}
	} else {
		holdRef(t, r)
	}
	if isOver := word.Kind(beta) == word.Inf; isOver != (f&api.Over != 0) || !isOver && !word.Finite(beta) {
		t.Fatalf("Gen(%x): beta %x, flags %d", x, beta, f)
	}
	if f&api.Under != 0 && word.Abs(beta) > word.Small {
		t.Fatalf("Gen(%x): beta %x is Under", x, beta)
	}
	if f&(api.Over|api.Under) == 0 {
		rest := reflected(r, exactly(x))
		rest[0] = rest[0].Sub(num(beta))
		bound := parts(32 * (len(x) + 4))
		if squares(rest).Cmp(bound.Mul(bound).Mul(squares(exactly(x)))) > 0 {
			t.Fatalf("Gen(%x) = %x, %x leaves something", x, r, beta)
		}
	}
	first := slices.Clone(r.V)
	for i := range r.V {
		r.V[i] = ^r.V[i]
	}
	if again, b, g, _ := Gen(x); !slices.Equal(x, was) || !slices.Equal(again.V, first) || again.Tau != r.Tau || b != beta || g != f {
		t.Fatalf("Gen(%x) changes something, or isn't always the same", x)
	}
	return Ref{V: first, Tau: r.Tau}, beta, f
}

// holdRef holds a reflection that is one against the bounds of its numbers.
func holdRef(t *testing.T, r Ref) {
	t.Helper()
	for _, v := range r.V {
		if word.Abs(v) > word.One {
			t.Fatalf("%x has a number above 1", r.V)
		}
	}
	if r.Tau < word.One || r.Tau > word.Of(2) {
		t.Fatalf("Tau %x", r.Tau)
	}
	miss := num(r.Tau).Mul(squares(exactly(r.V))).Sub(dyad.Int(2)).Abs()
	if miss.Cmp(parts(32*(len(r.V)+4))) > 0 {
		t.Fatalf("%x is no reflection", r)
	}
}

// P13.1: the document's example, and others where beta is known.
func TestGen(t *testing.T) {
	for i, l := range []struct {
		x    []uint64
		beta float64
	}{
		{nums(3, 4), -5}, {nums(-3, 4), 5}, {nums(3, -4, 0), -5}, {nums(-1, 2, -2), 3}, {nums(3e-300, 4e-300), -5e-300},
		{nums(1, 1, 1, 1), -2}, {nums(0x1p1022, 0x1p1022, 0x1p1022, 0x1p1022), -0x1p1023}, {nums(5, 0x1p-30), -5},
	} {
		_, beta, f := holdGen(t, l.x)
		if miss := word.Float(beta) - l.beta; f&(api.Over|api.Under) != 0 || math.Abs(miss) > 1e-14*math.Abs(l.beta) {
			t.Errorf("%d: beta %g, flags %d; want %g", i, word.Float(beta), f, l.beta)
		}
	}
	// A first number that is a zero has no sign to say which beta it is.
	for _, x := range [][]uint64{nums(0, 7), {word.Minus0, word.Of(-7)}, nums(0, 0, 7)} {
		if _, beta, _ := holdGen(t, x); math.Abs(math.Abs(word.Float(beta))-7) > 1e-13 {
			t.Errorf("Gen(%x): beta %x", x, beta)
		}
	}
}

// P13.1: numbers of all sizes, also those whose squares are beyond all or beneath.
func TestGenBounds(t *testing.T) {
	r := rand.New(rand.NewSource(131))
	for round := range 1500 {
		about := []int{0, 0, 1000, -1000, -1060}[round%5]
		most := []int{0, 3, 60, 450, 1060}[r.Intn(5)]
		x := plain(r, 1+r.Intn(9), about, most)
		for range r.Intn(3) {
			x[r.Intn(len(x))] = []uint64{0, word.Minus0, word.Least, word.Small}[r.Intn(4)]
		}
		holdGen(t, x)
	}
	for _, n := range []int{100, 3000} {
		holdGen(t, plain(r, n, 0, 5))
	}
}

// P13.1: where nothing but the first number counts.
func TestGenTail(t *testing.T) {
	for _, b := range edges() {
		if word.Finite(b) {
			for _, x := range [][]uint64{{b}, {b, 0}, {b, word.Minus0}, {b, word.Minus0, 0, 0}} {
				if r, beta, f := holdGen(t, x); word.Abs(r.Tau) != 0 || beta != b || f != 0 {
					t.Errorf("Gen(%x) = %x, %x", x, r, beta)
				}
			}
		}
	}
	below := word.Float(word.Prev(word.Of(0x1p-400)))
	above := word.Float(word.Prev(word.Of(2)))
	for i, l := range []struct {
		x    []uint64
		none bool
	}{
		{nums(1, 0x1p-400), false}, {nums(-1, -0x1p-400), false}, {nums(1, below), true}, {nums(1, -below), true},
		{nums(above, 0x1p-400), false}, {nums(above, below), true}, {nums(-above, 0x1.8p-401), true}, {nums(2, 0x1p-400), true},
		{nums(1, below, 0, 0x1p-400), false}, {nums(1, 0x1p-400, below), false}, {nums(1, below, below, below, below), true},
		{nums(0x1p1000, 0x1p600), false}, {nums(0x1p1000, 0x1p599), true}, {[]uint64{word.Of(0x1p-674), word.Least}, false},
		{[]uint64{word.Of(0x1p-673), word.Least}, true}, {[]uint64{word.Most, word.Least}, true}, {nums(1, 1e-200), true},
		{nums(below, 1), false}, {nums(0x1p-1000, 1), false}, {[]uint64{0, word.Least}, false}, {[]uint64{word.Least, word.Most}, false},
	} {
		if r, _, _ := holdGen(t, l.x); (word.Abs(r.Tau) == 0) != l.none {
			t.Errorf("%d: Gen(%x): Tau %x", i, l.x, r.Tau)
		}
	}
	r := rand.New(rand.NewSource(132))
	seen := [2]int{}
	for range 400 {
		x := append(plain(r, 1, 0, 2), plain(r, 1+r.Intn(3), -400, 2)...)
		ref, _, _ := holdGen(t, x)
		if word.Abs(ref.Tau) == 0 {
			seen[0]++
		} else {
			seen[1]++
		}
	}
	if Faint != -400 || min(seen[0], seen[1]) < 50 {
		t.Error("Faint, or few of one kind:", Faint, seen)
	}
}

// P13.1: a beta that is beyond all, or can't be told beneath; the reflection is one all the same.
func TestGenFlags(t *testing.T) {
	for i, l := range []struct {
		x    []uint64
		want api.Flags
	}{
		{[]uint64{word.Most, word.Most}, api.Over}, {[]uint64{word.Flip(word.Most), word.Most, 0}, api.Over},
		{[]uint64{word.One, word.Most, word.Flip(word.Most)}, api.Over}, {nums(0x1.8p1023, 0x1.8p1023), api.Over},
		{nums(0x1p1023, 0x1p1023), 0}, {nums(0x1p1023, -0x1p1023, 1), 0},
		{[]uint64{1, 1}, api.Under}, {[]uint64{word.Flip(1), 1}, api.Under}, {[]uint64{2, 1}, api.Under}, {[]uint64{1, 0, 1, 1}, api.Under},
		{[]uint64{word.Small, word.Small}, 0}, {nums(0x1p-1020, 0x1p-1021), 0}, {nums(0.1, 0.2, 0.3), 0},
	} {
		_, beta, f := holdGen(t, l.x)
		if f&(api.Over|api.Under) != l.want || word.Neg(beta) == word.Neg(l.x[0]) {
			t.Errorf("%d: Gen(%x): beta %x, flags %d; want %d", i, l.x, beta, f, l.want)
		}
	}
}

// P13.1: no numbers, and what is no number, wherever it stands.
func TestGenErrors(t *testing.T) {
	check := func(x []uint64, want api.Errno) {
		t.Helper()
		r, beta, f, e := Gen(x)
		if e != want || len(r.V) != 0 || r.Tau != 0 || beta != 0 && beta != word.Quiet || f != 0 {
			t.Errorf("Gen(%x) = %x, %x, flags %d, %d; want %d", x, r, beta, f, e, want)
		}
	}
	check(nil, api.ErrShape)
	check([]uint64{}, api.ErrShape)
	for _, b := range []uint64{word.PosInf, word.NegInf, word.Quiet, word.Flip(word.Quiet), signals, math.MaxUint64} {
		check([]uint64{b}, api.ErrPlain)
		check([]uint64{b, 0, 0}, api.ErrPlain)
		check([]uint64{b, b}, api.ErrPlain)
		for at := range 4 {
			x := nums(1, 0, 2, 1e-300)
			x[at] = b
			check(x, api.ErrPlain)
		}
	}
}
