package word

import (
	"math"
	"math/rand"
	"testing"
)

const top uint64 = 1 << 63

// Each pattern with its sign 0, and what the document says of it.
var patterns = []struct {
	b       uint64
	exp     int
	frac    uint64
	kind    int
	signals bool
	whole   uint64
	power   int
}{
	{b: 0, kind: Zero},
	{b: 1, frac: 1, kind: Sub, whole: 1, power: -1074},
	{b: 2, frac: 2, kind: Sub, whole: 2, power: -1074},
	{b: 0x0008000000000000, frac: 1 << 51, kind: Sub, whole: 1 << 51, power: -1074},
	{b: 0x000fffffffffffff, frac: 1<<52 - 1, kind: Sub, whole: 1<<52 - 1, power: -1074},
	{b: 0x0010000000000000, exp: 1, kind: Normal, whole: 1 << 52, power: -1074},
	{b: 0x001fffffffffffff, exp: 1, frac: 1<<52 - 1, kind: Normal, whole: 1<<53 - 1, power: -1074},
	{b: 0x0020000000000000, exp: 2, kind: Normal, whole: 1 << 52, power: -1073},
	{b: 0x3ff0000000000000, exp: 1023, kind: Normal, whole: 1 << 52, power: -52},
	{b: 0x4008000000000000, exp: 1024, frac: 1 << 51, kind: Normal, whole: 3 << 51, power: -51},
	{b: 0x7fe0000000000000, exp: 2046, kind: Normal, whole: 1 << 52, power: 971},
	{b: 0x7fefffffffffffff, exp: 2046, frac: 1<<52 - 1, kind: Normal, whole: 1<<53 - 1, power: 971},
	{b: 0x7ff0000000000000, exp: 2047, kind: Inf},
	{b: 0x7ff0000000000001, exp: 2047, frac: 1, kind: Nan, signals: true},
	{b: 0x7ff7ffffffffffff, exp: 2047, frac: 1<<51 - 1, kind: Nan, signals: true},
	{b: 0x7ff8000000000000, exp: 2047, frac: 1 << 51, kind: Nan},
	{b: 0x7ff8000000000001, exp: 2047, frac: 1<<51 | 1, kind: Nan},
	{b: 0x7fffffffffffffff, exp: 2047, frac: 1<<52 - 1, kind: Nan},
}

// P1.1
func TestReading(t *testing.T) {
	for _, p := range patterns {
		for _, sign := range []uint64{0, top} {
			b := p.b | sign
			if Neg(b) != (sign != 0) {
				t.Errorf("Neg(%#x) = %t", b, Neg(b))
			}
			if Exp(b) != p.exp || Frac(b) != p.frac {
				t.Errorf("Exp, Frac(%#x) = %d, %#x, want %d, %#x", b, Exp(b), Frac(b), p.exp, p.frac)
			}
			if Kind(b) != p.kind {
				t.Errorf("Kind(%#x) = %d, want %d", b, Kind(b), p.kind)
			}
			if Finite(b) != (p.kind == Zero || p.kind == Sub || p.kind == Normal) {
				t.Errorf("Finite(%#x) = %t", b, Finite(b))
			}
			if Signals(b) != p.signals {
				t.Errorf("Signals(%#x) = %t", b, Signals(b))
			}
			if whole, power := Parts(b); whole != p.whole || power != p.power {
				t.Errorf("Parts(%#x) = %d, %d, want %d, %d", b, whole, power, p.whole, p.power)
			}
			if m := Make(sign != 0, p.exp, p.frac); m != b {
				t.Errorf("Make(%t, %d, %#x) = %#x, want %#x", sign != 0, p.exp, p.frac, m, b)
			}
		}
	}
}

// P1.1
func TestKindsAndPatternsAsListed(t *testing.T) {
	if Zero != 1 || Sub != 2 || Normal != 3 || Inf != 4 || Nan != 5 {
		t.Error("the kinds' numbers")
	}
	for b, want := range map[uint64]float64{
		One: 1, PosInf: math.Inf(1), NegInf: math.Inf(-1), Most: math.MaxFloat64,
		Least: math.SmallestNonzeroFloat64, Small: 0x1p-1022,
	} {
		if math.Float64bits(want) != b {
			t.Errorf("%#x isn't the pattern of %g", b, want)
		}
	}
	if Minus0 != top || Quiet != 0x7ff8000000000000 {
		t.Error("Minus0, Quiet")
	}
}

// P1.1
func TestMakeTakesTheLowestBits(t *testing.T) {
	for _, x := range []struct {
		neg  bool
		exp  int
		frac uint64
		want uint64
	}{
		{false, 0x800, 0, 0},
		{false, 0xbff, 0, One},
		{true, 0x1000, 0, Minus0},
		{false, 0xfff, 0, PosInf},
		{true, math.MaxInt, 0, NegInf},
		{false, math.MaxInt - 2047, 0, 0},
		{false, -1, 0, PosInf},
		{false, -2, 1<<52 - 1, Most},
		{true, -2048, 1, Minus0 | 1},
		{false, -1025, 0, One},
		{true, math.MinInt, 0, Minus0},
		{false, math.MinInt + 1023, 0, One},
		{false, 0, 1 << 52, 0},
		{false, 0, 1<<52 | 1, Least},
		{false, 1023, 1 << 63, One},
		{false, 1023, math.MaxUint64, One | (1<<52 - 1)},
		{true, -1, math.MaxUint64, math.MaxUint64},
		{false, -1, math.MaxUint64, math.MaxUint64 >> 1},
	} {
		if b := Make(x.neg, x.exp, x.frac); b != x.want {
			t.Errorf("Make(%t, %d, %#x) = %#x, want %#x", x.neg, x.exp, x.frac, b, x.want)
		}
	}
}

// P1.1: Parts is the value, as Go's own numbers have it.
func TestPartsAreTheValue(t *testing.T) {
	r := rand.New(rand.NewSource(1))
	for range 20000 {
		b := somePattern(r)
		whole, power := Parts(b)
		if !Finite(b) {
			if whole != 0 || power != 0 {
				t.Fatalf("Parts(%#x) = %d, %d", b, whole, power)
			}
			continue
		}
		if math.Ldexp(float64(whole), power) != math.Abs(math.Float64frombits(b)) {
			t.Fatalf("Parts(%#x) = %d, %d", b, whole, power)
		}
	}
}

// P1.2
func TestSigns(t *testing.T) {
	for _, p := range patterns {
		plus, minus := p.b, p.b|top
		if Flip(plus) != minus || Flip(minus) != plus {
			t.Errorf("Flip of %#x", plus)
		}
		if Abs(plus) != plus || Abs(minus) != plus {
			t.Errorf("Abs of %#x", plus)
		}
		for _, q := range patterns {
			for _, b := range []uint64{plus, minus} {
				if Sign(b, q.b) != plus || Sign(b, q.b|top) != minus {
					t.Errorf("Sign(%#x, of %#x)", b, q.b)
				}
			}
		}
	}
}

// P1.2: each of these stands right above the one before it.
func TestNextAndPrevStepByStep(t *testing.T) {
	for _, x := range [][2]uint64{
		{NegInf, 0xffefffffffffffff},
		{0xffefffffffffffff, 0xffeffffffffffffe},
		{0xbff0000000000001, 0xbff0000000000000},
		{0xbff0000000000000, 0xbfefffffffffffff},
		{0x8010000000000000, 0x800fffffffffffff},
		{0x8000000000000002, 0x8000000000000001},
		{1, 2},
		{0x000fffffffffffff, 0x0010000000000000},
		{0x001fffffffffffff, 0x0020000000000000},
		{0x3fefffffffffffff, One},
		{One, 0x3ff0000000000001},
		{0x7feffffffffffffe, Most},
		{Most, PosInf},
	} {
		if n := Next(x[0]); n != x[1] {
			t.Errorf("Next(%#x) = %#x, want %#x", x[0], n, x[1])
		}
		if p := Prev(x[1]); p != x[0] {
			t.Errorf("Prev(%#x) = %#x, want %#x", x[1], p, x[0])
		}
	}
}

// P1.2: zeros, the least numbers, infinities and Nans.
func TestNextAndPrevAtTheEdges(t *testing.T) {
	for b, want := range map[uint64]uint64{0: Least, Minus0: Least, top | 1: Minus0, PosInf: PosInf} {
		if n := Next(b); n != want {
			t.Errorf("Next(%#x) = %#x, want %#x", b, n, want)
		}
	}
	for b, want := range map[uint64]uint64{0: top | 1, Minus0: top | 1, Least: 0, NegInf: NegInf} {
		if p := Prev(b); p != want {
			t.Errorf("Prev(%#x) = %#x, want %#x", b, p, want)
		}
	}
	for _, p := range patterns {
		if p.kind != Nan {
			continue
		}
		for _, b := range []uint64{p.b, p.b | top} {
			if Next(b) != b || Prev(b) != b {
				t.Errorf("Next, Prev(%#x) = %#x, %#x", b, Next(b), Prev(b))
			}
		}
	}
}

// P1.2: the neighbours that Go's library tells.
func TestNextAndPrevAsTheLibrarySays(t *testing.T) {
	r := rand.New(rand.NewSource(2))
	for range 20000 {
		b := somePattern(r)
		x := math.Float64frombits(b)
		if Kind(b) == Nan || x == 0 {
			continue
		}
		if n := math.Float64frombits(Next(b)); n != math.Nextafter(x, math.Inf(1)) {
			t.Fatalf("Next(%#x) = %#x", b, Next(b))
		}
		if p := math.Float64frombits(Prev(b)); p != math.Nextafter(x, math.Inf(-1)) {
			t.Fatalf("Prev(%#x) = %#x", b, Prev(b))
		}
	}
}

// P1.2
func TestOfAndFloatThereAndBack(t *testing.T) {
	for _, p := range patterns {
		for _, b := range []uint64{p.b, p.b | top} {
			x := Float(b)
			if p.kind == Nan {
				if x == x || Kind(Of(x)) != Nan {
					t.Errorf("Float(%#x) = %g", b, x)
				}
				continue
			}
			if math.Float64bits(x) != b || Of(x) != b {
				t.Errorf("Float(%#x) = %g, Of it %#x", b, x, Of(x))
			}
		}
	}
	for x, want := range map[float64]uint64{
		1: One, -0.75: 0xbfe8000000000000, 0.1: 0x3fb999999999999a, 1 << 53: 0x4340000000000000, 0: 0,
		math.Copysign(math.Inf(1), -1): NegInf,
	} {
		if Of(x) != want || Float(want) != x {
			t.Errorf("Of(%g) = %#x, want %#x", x, Of(x), want)
		}
	}
	if Of(math.Copysign(0, -1)) != Minus0 || !math.Signbit(Float(Minus0)) {
		t.Error("minus zero")
	}
}

// somePattern has each kind often enough.
func somePattern(r *rand.Rand) uint64 {
	b := r.Uint64()
	switch r.Intn(5) {
	case 0:
		return b &^ PosInf
	case 1:
		return b | PosInf
	case 2:
		return patterns[r.Intn(len(patterns))].b | b&top
	}
	return b
}
