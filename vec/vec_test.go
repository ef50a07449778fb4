package vec

import (
	"math"
	"math/big"
	"math/rand"
	"slices"
	"testing"

	"gimbal/api"
	"gimbal/more"
	"gimbal/soft"
	"gimbal/word"
)

const signals = 0x7ff0000000000001

func nums(all ...float64) []uint64 {
	var out []uint64
	for _, x := range all {
		out = append(out, word.Of(x))
	}
	return out
}

func edges() []uint64 {
	return []uint64{
		0, word.Minus0, word.Least, word.Flip(word.Least), word.Small, word.Small - 1, word.One, word.Flip(word.One), word.Of(1.5), word.Of(0.1),
		word.Most, word.Flip(word.Most), word.PosInf, word.NegInf, word.Quiet, word.Flip(word.Quiet), signals,
	}
}

func anyList(r *rand.Rand, n int) []uint64 {
	out := make([]uint64, n)
	for i := range out {
		switch r.Intn(4) {
		case 0:
			out[i] = edges()[r.Intn(len(edges()))]
		case 1:
			out[i] = r.Uint64()
		default:
			out[i] = word.Of(r.NormFloat64())
		}
	}
	return out
}

// plain are numbers of like sizes, so that nothing is Over or Under.
func plain(r *rand.Rand, n int, most int) []uint64 {
	out := make([]uint64, n)
	for i := range out {
		out[i] = word.Of(math.Ldexp(r.NormFloat64(), r.Intn(2*most+1)-most))
	}
	return out
}

// sameNumber is by patterns, but Go's own Nans have others than ours.
func sameNumber(b uint64, x float64) bool {
	if math.IsNaN(x) {
		return b == word.Quiet
	}
	return b == word.Of(x)
}

// steps gathers flags as a Calc does, by layer 4's functions.
type steps struct{ f api.Flags }

func (s *steps) keep(b uint64, f api.Flags) uint64 {
	s.f |= f
	return b
}

// P10.1: Dot, step by step, with the flags of these steps and no others.
func TestDot(t *testing.T) {
	if d, e := Dot(nil, nums(1, 2, 3), nums(4, -5, 6)); d != word.Of(12) || e != api.OK {
		t.Errorf("Dot %x %d", d, e)
	}
	if d, e := Dot(nil, nil, []uint64{}); d != 0 || e != api.OK {
		t.Errorf("Dot of none %x %d", d, e)
	}
	if d, _ := Dot(nil, nums(1), []uint64{word.Minus0}); d != 0 {
		t.Errorf("Dot begins at plus zero: %x", d)
	}
	if d, _ := Dot(nil, nums(0x1p53, 1, 1), nums(1, 1, 1)); d != word.Of(0x1p53) {
		t.Errorf("Dot in order: %x", d)
	}
	if d, _ := Dot(nil, nums(1, 1, 0x1p53), nums(1, 1, 1)); d != word.Of(0x1p53+2) {
		t.Errorf("Dot in order: %x", d)
	}
	r := rand.New(rand.NewSource(101))
	for range 3000 {
		n := r.Intn(6)
		x, y := anyList(r, n), anyList(r, n)
		var s steps
		sum, goSum := uint64(0), 0.0
		for i := range x {
			sum = s.keep(soft.Add(sum, s.keep(soft.Mul(x[i], y[i]))))
			goSum += float64(word.Float(x[i]) * word.Float(y[i]))
		}
		c := &soft.Calc{F: api.ByZero}
		d, e := Dot(c, x, y)
		if e != api.OK || d != sum || !sameNumber(d, goSum) || c.F != s.f|api.ByZero {
			t.Fatalf("Dot(%x, %x) = %x, %d, flags %d; want %x, flags %d", x, y, d, e, c.F, sum, s.f|api.ByZero)
		}
		if d2, _ := Dot(nil, x, y); d2 != d {
			t.Fatal("another Dot without a Calc")
		}
	}
}

// P10.1: Axpy and Scal.
func TestAxpyScal(t *testing.T) {
	r := rand.New(rand.NewSource(102))
	for range 3000 {
		n := r.Intn(5)
		x, y, a := anyList(r, n), anyList(r, n), anyList(r, 1)[0]
		xWas, yWas := slices.Clone(x), slices.Clone(y)
		var s, p steps
		var sums, products []uint64
		for i := range x {
			product := s.keep(soft.Mul(a, x[i]))
			p.keep(soft.Mul(a, x[i]))
			products = append(products, product)
			sums = append(sums, s.keep(soft.Add(product, y[i])))
			goProduct := float64(word.Float(a) * word.Float(x[i]))
			if !sameNumber(product, goProduct) || !sameNumber(sums[i], goProduct+word.Float(y[i])) {
				t.Fatalf("layer 4 and Go differ at %x, %x, %x", a, x[i], y[i])
			}
		}
		c, d := &soft.Calc{}, &soft.Calc{F: api.ByZero}
		got, e := Axpy(c, a, x, y)
		scaled := Scal(d, a, x)
		if e != api.OK || !slices.Equal(got, sums) || c.F != s.f {
			t.Fatalf("Axpy(%x, %x, %x) = %x, flags %d; want %x, flags %d", a, x, y, got, c.F, sums, s.f)
		}
		if !slices.Equal(scaled, products) || d.F != p.f|api.ByZero {
			t.Fatalf("Scal(%x, %x) = %x, flags %d; want %x, flags %d", a, x, scaled, d.F, products, p.f)
		}
		without, _ := Axpy(nil, a, x, y)
		if !slices.Equal(without, got) || !slices.Equal(Scal(nil, a, x), scaled) {
			t.Fatal("another answer without a Calc")
		}
		for i := range got {
			got[i], scaled[i] = ^got[i], ^scaled[i]
		}
		if !slices.Equal(x, xWas) || !slices.Equal(y, yWas) {
			t.Fatal("an argument changed, or is shared")
		}
	}
}

// P10.1: Asum.
func TestAsum(t *testing.T) {
	if a := Asum(nil, nums(4, -5, 6)); a != word.Of(15) {
		t.Errorf("Asum %x", a)
	}
	if Asum(nil, nil) != 0 || Asum(nil, []uint64{word.Minus0, word.Minus0}) != 0 {
		t.Error("Asum of zeros")
	}
	r := rand.New(rand.NewSource(103))
	for range 3000 {
		x := anyList(r, r.Intn(6))
		was := slices.Clone(x)
		var s steps
		sum, goSum := uint64(0), 0.0
		for _, b := range x {
			sum = s.keep(soft.Add(sum, word.Abs(b)))
			goSum += math.Abs(word.Float(b))
		}
		c := &soft.Calc{F: api.ByZero}
		if a := Asum(c, x); a != sum || !sameNumber(a, goSum) || c.F != s.f|api.ByZero || Asum(nil, x) != a || !slices.Equal(x, was) {
			t.Fatalf("Asum(%x) = %x, flags %d; want %x, flags %d", x, a, c.F, sum, s.f)
		}
	}
}

// P10.1: Rot.
func TestRot(t *testing.T) {
	p, q, e := Rot(nil, nums(1, 3), nums(2, 5), word.Of(0), word.Of(1))
	if e != api.OK || !slices.Equal(p, nums(2, 5)) || !slices.Equal(q, nums(-1, -3)) {
		t.Errorf("Rot %x %x %d", p, q, e)
	}
	r := rand.New(rand.NewSource(104))
	for range 3000 {
		n := r.Intn(5)
		x, y, turn := anyList(r, n), anyList(r, n), anyList(r, 2)
		c, s := turn[0], turn[1]
		xWas, yWas := slices.Clone(x), slices.Clone(y)
		var st steps
		var sums, differences []uint64
		for i := range x {
			sums = append(sums, st.keep(soft.Add(st.keep(soft.Mul(c, x[i])), st.keep(soft.Mul(s, y[i])))))
			differences = append(differences, st.keep(soft.Sub(st.keep(soft.Mul(c, y[i])), st.keep(soft.Mul(s, x[i])))))
			if !sameNumber(sums[i], float64(word.Float(c)*word.Float(x[i]))+float64(word.Float(s)*word.Float(y[i]))) {
				t.Fatal("layer 4 and Go differ")
			}
			if !sameNumber(differences[i], float64(word.Float(c)*word.Float(y[i]))-float64(word.Float(s)*word.Float(x[i]))) {
				t.Fatal("layer 4 and Go differ")
			}
		}
		k := &soft.Calc{F: api.ByZero}
		p, q, e := Rot(k, x, y, c, s)
		if e != api.OK || !slices.Equal(p, sums) || !slices.Equal(q, differences) || k.F != st.f|api.ByZero {
			t.Fatalf("Rot(%x, %x, %x, %x) = %x, %x, flags %d; want %x, %x, flags %d", x, y, c, s, p, q, k.F, sums, differences, st.f)
		}
		p2, q2, _ := Rot(nil, x, y, c, s)
		for i := range p {
			p[i] = ^p[i]
		}
		if !slices.Equal(q, q2) || !slices.Equal(p2, sums) {
			t.Fatal("the lists share memory, or a Calc matters")
		}
		for i := range q {
			q[i] = ^q[i]
		}
		if !slices.Equal(x, xWas) || !slices.Equal(y, yWas) {
			t.Fatal("an argument changed, or is shared")
		}
	}
}

// P10.1: lists that aren't of one length; the Calc is left alone.
func TestShape(t *testing.T) {
	c := &soft.Calc{}
	long, short := []uint64{signals, word.Most, word.Of(0.1)}, []uint64{word.Most, signals}
	for _, l := range [][2][]uint64{{long, short}, {short, long}, {long, nil}, {nil, short}, {{}, short}} {
		if d, e := Dot(c, l[0], l[1]); e != api.ErrShape || d != word.Quiet {
			t.Errorf("Dot %x %d", d, e)
		}
		if a, e := Axpy(c, word.Most, l[0], l[1]); e != api.ErrShape || len(a) != 0 {
			t.Errorf("Axpy %x %d", a, e)
		}
		if p, q, e := Rot(c, l[0], l[1], word.Most, word.Most); e != api.ErrShape || len(p) != 0 || len(q) != 0 {
			t.Errorf("Rot %x %x %d", p, q, e)
		}
		if _, e := Dot(nil, l[0], l[1]); e != api.ErrShape {
			t.Error("Dot without a Calc", e)
		}
	}
	if c.F != 0 {
		t.Error("flags of what was not reckoned", c.F)
	}
}

// P10.2: Power.
func TestPower(t *testing.T) {
	for i, l := range []struct {
		x    []uint64
		want int
		ok   bool
	}{
		{nil, 0, false}, {[]uint64{}, 0, false}, {nums(0), 0, false}, {[]uint64{word.Minus0, 0}, 0, false},
		{[]uint64{word.One, word.PosInf}, 0, false}, {[]uint64{word.NegInf, word.One}, 0, false},
		{[]uint64{word.Quiet}, 0, false}, {[]uint64{word.One, signals, word.Most}, 0, false}, {[]uint64{word.PosInf, word.Quiet}, 0, false},
		{nums(0, -5), 2, true}, {nums(1), 0, true}, {nums(math.Nextafter(2, 0)), 0, true}, {nums(2, -1), 1, true}, {nums(-0.75, 0.5), -1, true}, {nums(-0.5), -1, true},
		{[]uint64{word.Most}, 1023, true}, {[]uint64{word.Flip(word.Most), word.Least}, 1023, true},
		{[]uint64{word.Least}, -1074, true}, {[]uint64{3, 4, word.Minus0}, -1072, true}, {[]uint64{3}, -1073, true},
		{[]uint64{word.Small}, -1022, true}, {[]uint64{word.Small - 1}, -1023, true},
	} {
		was := slices.Clone(l.x)
		if e, ok := Power(l.x); e != l.want || ok != l.ok || !slices.Equal(was, l.x) {
			t.Errorf("%d: Power %d, %t; want %d, %t", i, e, ok, l.want, l.ok)
		}
	}
	r := rand.New(rand.NewSource(105))
	for range 2000 {
		x := plain(r, 1+r.Intn(4), 1050)
		most := 0.0
		for _, b := range x {
			most = max(most, math.Abs(word.Float(b)))
		}
		_, e := math.Frexp(most)
		if got, ok := Power(x); most > 0 && !math.IsInf(most, 0) && (got != e-1 || !ok) {
			t.Errorf("Power(%x) = %d, want %d", x, got, e-1)
		}
	}
}

// P10.2: Unit, by any power.
func TestUnit(t *testing.T) {
	if u := Unit(nums(3, -5), 2); !slices.Equal(u, nums(0.75, -1.25)) {
		t.Errorf("Unit %x", u)
	}
	if len(Unit(nil, 3)) != 0 {
		t.Error("Unit of none")
	}
	x := edges()
	for _, e := range []int{0, 1, -1, 1023, -1074, 2000, -2100, 10000, -10000, 10001, -10001, math.MaxInt, math.MinInt + 1} {
		u := Unit(x, e)
		for i, b := range x {
			if want, _ := more.Scale(b, -e); u[i] != want {
				t.Errorf("Unit(%x, %d) = %x, want %x", b, e, u[i], want)
			}
		}
	}
	// Divided by the least power that an int tells, a number is beyond all.
	if u := Unit([]uint64{word.Least, word.Flip(word.One), 0, word.Quiet}, math.MinInt); !slices.Equal(u, []uint64{word.PosInf, word.NegInf, 0, word.Quiet}) {
		t.Errorf("Unit by the least power: %x", u)
	}
	u := Unit(x, 0)
	u[0] = 7
	if x[0] == 7 {
		t.Error("Unit shares the list's memory")
	}
}

// P10.3: Nrm2 of what Power says false of, without flags.
func TestNrm2Greatest(t *testing.T) {
	for i, l := range []struct {
		x    []uint64
		want uint64
	}{
		{nil, 0}, {[]uint64{word.Minus0}, 0}, {[]uint64{0, word.Minus0, 0}, 0},
		{[]uint64{word.One, word.NegInf}, word.PosInf}, {[]uint64{word.PosInf, word.Most}, word.PosInf},
		{[]uint64{word.PosInf, word.Flip(word.Quiet)}, word.Quiet}, {[]uint64{signals, word.One}, word.Quiet}, {[]uint64{0, math.MaxUint64}, word.Quiet},
	} {
		c := &soft.Calc{F: api.ByZero}
		if got := Nrm2(c, l.x); got != l.want || c.F != api.ByZero || Nrm2(nil, l.x) != got {
			t.Errorf("%d: Nrm2 %x, flags %d; want %x", i, got, c.F, l.want)
		}
	}
}

// P10.3: the numbers that Nrm2 must tell, and its flags: of the root itself it tells none.
func TestNrm2Flags(t *testing.T) {
	for i, l := range []struct {
		x     []uint64
		want  uint64
		flags api.Flags
	}{
		{nums(3, 4), word.Of(5), 0}, {nums(-7), word.Of(7), 0}, {nums(3e300, 4e300), word.Of(5e300), api.Inexact},
		{nums(1, 1), word.Of(math.Sqrt2), 0},
		{nums(1, 0x1p-30), word.One, api.Inexact},                               // a sum
		{nums(1+0x1p-30, 0), word.Of(1 + 0x1p-30), api.Inexact},                 // a square
		{nums(1, 0x1p-600), word.One, api.Inexact},                              // a square beneath all isn't Under
		{[]uint64{word.Of(0x1p1000), word.Of(0x1p-1000)}, word.Of(0x1p1000), 0}, // the number itself is let go
		{[]uint64{3, 4}, 5, 0}, {[]uint64{word.Least}, 1, 0},
		{[]uint64{1, 1}, 1, api.Inexact | api.Under},
		{[]uint64{word.Most, word.Most}, word.PosInf, api.Inexact | api.Over},
		{[]uint64{word.Flip(word.Most)}, word.Most, api.Inexact},
	} {
		c := &soft.Calc{}
		if got := Nrm2(c, l.x); got != l.want || c.F != l.flags || Nrm2(nil, l.x) != got {
			t.Errorf("%d: Nrm2 %x, flags %d; want %x, flags %d", i, got, c.F, l.want, l.flags)
		}
		c = &soft.Calc{F: api.Invalid}
		if Nrm2(c, l.x); c.F != l.flags|api.Invalid {
			t.Errorf("%d: flags %d", i, c.F)
		}
	}
}

// byTheWords is Nrm2 step by step.
func byTheWords(x []uint64, e int) (uint64, api.Flags) {
	var s steps
	var sum uint64
	for _, b := range x {
		u, _ := more.Scale(b, -e)
		sum = s.keep(soft.Add(sum, s.keep(soft.Mul(u, u))))
	}
	root, _ := more.Sqrt(sum)
	got, f := more.Scale(root, e)
	return got, f | s.f&api.Inexact
}

func exact(b uint64) *big.Float { return new(big.Float).SetPrec(9000).SetFloat64(word.Float(b)) }

// P10.3: Nrm2 by its steps, and how far it may differ.
func TestNrm2(t *testing.T) {
	r := rand.New(rand.NewSource(106))
	told := 0
	for round := range 600 {
		most := []int{0, 3, 40, 600, 1060}[round%5]
		x := plain(r, 1+r.Intn(12), most)
		was := slices.Clone(x)
		e, ok := Power(x)
		if !ok {
			continue
		}
		want, f := byTheWords(x, e)
		c := &soft.Calc{}
		got := Nrm2(c, x)
		if got != want || c.F != f || !slices.Equal(x, was) {
			t.Fatalf("Nrm2(%x) = %x, flags %d; want %x, flags %d", x, got, c.F, want, f)
		}
		if f&(api.Over|api.Under) != 0 {
			continue
		}
		told++
		sum := new(big.Float).SetPrec(9000)
		for _, b := range x {
			sum.Add(sum, new(big.Float).SetPrec(9000).Mul(exact(b), exact(b)))
		}
		root := new(big.Float).SetPrec(9000).Sqrt(sum)
		bound := new(big.Float).SetPrec(9000).Mul(root, big.NewFloat(float64(len(x)+4)*0x1p-53))
		if diff := root.Sub(exact(got), root); diff.Abs(diff).Cmp(bound) > 0 {
			t.Fatalf("Nrm2(%x) = %x differs by %g", x, got, diff)
		}
	}
	if told < 400 {
		t.Error("few were held against their root:", told)
	}
}

// P10.4: how far Dot may differ, also where products cancel.
func TestDotBound(t *testing.T) {
	r := rand.New(rand.NewSource(107))
	for round := range 300 {
		n := 1 + r.Intn(40)
		if round == 0 {
			n = 1 << 12
		}
		x, y := plain(r, n, 200), plain(r, n, 200)
		for i := n / 2; i < n && round%2 == 1; i++ {
			x[i], y[i] = word.Flip(x[i-n/2]), word.Next(y[i-n/2])
		}
		c := &soft.Calc{}
		d, _ := Dot(c, x, y)
		if c.F&^api.Inexact != 0 {
			t.Fatal("flags", c.F)
		}
		sum, sizes := new(big.Float).SetPrec(9000), new(big.Float).SetPrec(9000)
		for i := range x {
			product := new(big.Float).SetPrec(9000).Mul(exact(x[i]), exact(y[i]))
			sum.Add(sum, product)
			sizes.Add(sizes, product.Abs(product))
		}
		bound := sizes.Mul(sizes, big.NewFloat(float64(2*n)*0x1p-53))
		if diff := sum.Sub(exact(d), sum); diff.Abs(diff).Cmp(bound) > 0 {
			t.Fatalf("Dot of %d differs by %g, and may by %g", n, diff, bound)
		}
	}
}
