package solve

import (
	"math"
	"math/big"
	"math/rand"
	"slices"
	"testing"

	"gimbal/api"
	"gimbal/mat"
	"gimbal/soft"
	"gimbal/word"
)

// P12.3: systems that can be solved just so, with what is told, and their flags.
func TestPivot(t *testing.T) {
	tiny := 1e-10
	for i, l := range []struct {
		a     mat.Matrix
		b     []uint64
		least float64
		want  []uint64
		told  bool
		flags api.Flags
	}{
		{mat.Matrix{}, nil, tiny, nil, false, 0},
		{mat.Matrix{Stride: 7}, []uint64{}, tiny, nil, false, 0},
		{square(4), nums(-8), tiny, nums(-2), false, 0},
		{square(3), nums(1), tiny, nums(1.0 / 3), false, api.Inexact},
		{square(0, 2, 4, 0), nums(6, 4), tiny, nums(1, 3), false, 0},
		{square(1, 0, 0, 8), nums(3, 16), tiny, nums(3, 2), false, 0},
		{square(0, 2, 1, 4, 0, 0, 0, 0, 8), nums(7, 4, 24), tiny, nums(1, 2, 3), false, 0},
		{square(0, 0, 0, -1, 0, 2, 0, 0, 16, 0, 0, 0, 0, 0, -4, 0), nums(1, 2, 16, 4), tiny, nums(1, 1, -1, -1), false, 0},
		{square(1, 1, 1, -1), nums(3, 1), tiny, nums(2, 1), false, 0},
		// What leads is too small: least leads, with its sign.
		{square(0), nums(1), 0.5, nums(2), true, 0},
		{square(0), []uint64{0}, 0.5, []uint64{0}, true, 0},
		{square(0.25), nums(1), 0.5, nums(2), true, 0},
		{square(-0.25), nums(1), 0.5, nums(2), true, 0},
		{square(0.5), nums(1), 0.5, nums(2), false, 0},
		{square(-0.5), nums(1), 0.5, nums(-2), false, 0}, // in magnitude
		{square(1, 1, 1, 1), nums(1, 2), 0.5, nums(-1, 2), true, 0},
		{square(0, 0, 0, 0), nums(1, 2), 0.25, nums(4, 8), true, 0},
		{square(0.125, 0, 0, 1), nums(1, 2), 0.25, nums(4, 2), true, 0},
		{square(2, 0, 0, 0, 0.5, 0, 0, 0, 1), nums(2, 2, 2), 1, nums(1, 2, 2), true, 0},
	} {
		c := &soft.Calc{}
		x, told, e := Pivot(c, l.a, l.b, word.Of(l.least))
		if e != api.OK || told != l.told || !slices.Equal(x, l.want) || c.F != l.flags {
			t.Errorf("%d: Pivot %x, %t, %d, flags %d; want %x, %t, flags %d", i, x, told, e, c.F, l.want, l.told, l.flags)
		}
		if again, _, _ := Pivot(nil, l.a, l.b, word.Of(l.least)); !slices.Equal(again, x) {
			t.Errorf("%d: another answer without a Calc", i)
		}
		c = &soft.Calc{F: api.ByZero}
		if Pivot(c, l.a, l.b, word.Of(l.least)); c.F != l.flags|api.ByZero {
			t.Errorf("%d: flags %d", i, c.F)
		}
	}
}

// P12.3: the greatest number of all that are left leads, not that of its column or row alone.
func TestPivotLeads(t *testing.T) {
	for i, l := range []struct {
		a    mat.Matrix
		told bool
	}{
		// 100.5 leads, and leaves 1 - 100 / 100.5; of the first column 1 would lead, and leave 0.5; of the first row 100 would, and leave -0.005.
		{square(1, 100, 1, 100.5), true},
		{square(1, 1, 100, 100.5), true},
		// 100 leads, and leaves just 0.1 of the column of 0.05 twice, which would be too small itself.
		{square(0.05, 100, 0.05, -100), false},
		{square(0.05, 0.05, 100, -100), false},
		{square(0.05, -100, 0.05, 100), false},
	} {
		if x, told, e := Pivot(nil, l.a, nums(1, 1), word.Of(0.1)); e != api.OK || told != l.told || len(x) != 2 {
			t.Errorf("%d: Pivot %x %t %d", i, x, told, e)
		}
	}
}

// P12.3: what isn't Finite, and a least that is no number above 0.
func TestPivotPlain(t *testing.T) {
	c := &soft.Calc{}
	notFinite := []uint64{word.PosInf, word.NegInf, word.Quiet, signals, math.MaxUint64}
	for at := range 4 {
		for _, b := range notFinite {
			a := square(0.1, 0.2, 0.3, 0.7)
			a.Set(at/2, at%2, b)
			if x, told, e := Pivot(c, a, nums(1, 1), word.One); e != api.ErrPlain || told || len(x) != 0 {
				t.Errorf("Pivot of %x: %x %t %d", b, x, told, e)
			}
		}
	}
	for _, least := range append(notFinite, 0, word.Minus0, word.Flip(word.Least), word.Flip(word.One), word.Flip(word.Most)) {
		for _, a := range []mat.Matrix{square(0.1, 0.2, 0.3, 0.7), {}} {
			if x, told, e := Pivot(c, a, make([]uint64, a.Rows), least); e != api.ErrPlain || told || len(x) != 0 {
				t.Errorf("Pivot with %x: %x %t %d", least, x, told, e)
			}
		}
	}
	if c.F != 0 {
		t.Error("flags of what was not reckoned", c.F)
	}
	for _, least := range []uint64{word.Least, word.Small, word.Most} {
		if x, told, e := Pivot(nil, square(2), nums(4), least); e != api.OK || told != (least == word.Most) || len(x) != 1 {
			t.Errorf("Pivot with %x: %x %t %d", least, x, told, e)
		}
	}
}

// P12.1: four equations are the most, whatever they are.
func TestPivotMost(t *testing.T) {
	c := &soft.Calc{}
	for _, n := range []int{5, 6, 100} {
		for _, least := range []uint64{word.One, 0} {
			a := mat.One(n)
			if x, told, e := Pivot(c, a, make([]uint64, n), least); e != api.ErrShape || told || len(x) != 0 {
				t.Errorf("Pivot of %d: %x %t %d", n, x, told, e)
			}
			a.Set(0, 0, signals)
			if x, told, e := Pivot(c, a, make([]uint64, n), least); e != api.ErrShape || told || len(x) != 0 {
				t.Errorf("Pivot of %d: %x %t %d", n, x, told, e)
			}
		}
	}
	if c.F != 0 {
		t.Error("flags of what was not reckoned", c.F)
	}
	if x, told, e := Pivot(nil, mat.One(4), nums(1, 2, 3, 4), word.One); e != api.OK || told || !slices.Equal(x, nums(1, 2, 3, 4)) {
		t.Errorf("Pivot of 4: %x %t %d", x, told, e)
	}
}

// P12.3 and rule 1: b may be anything, and what is Over, Under or Invalid on the way is told as a flag.
func TestPivotFlags(t *testing.T) {
	for i, l := range []struct {
		a     mat.Matrix
		b     []uint64
		flags api.Flags
	}{
		{square(0.5), []uint64{word.Most}, api.Over | api.Inexact},
		{square(3), []uint64{word.Least}, api.Under | api.Inexact},
		{square(1), []uint64{signals}, api.Invalid},
		{square(1), []uint64{word.Quiet}, 0},
		{square(1), []uint64{word.NegInf}, 0},
		{square(1, 1, 1, -1), []uint64{word.PosInf, word.PosInf}, api.Invalid},
		{spread(2, 2, 2, []uint64{word.Most, word.Most, word.Flip(word.Most), word.Most}), []uint64{word.Most, word.One}, api.Over | api.Inexact},
	} {
		c := &soft.Calc{}
		x, told, e := Pivot(c, l.a, l.b, word.Least)
		if e != api.OK || told || len(x) != len(l.b) || c.F != l.flags {
			t.Errorf("%d: Pivot %x, %t, %d, flags %d; want flags %d", i, x, told, e, c.F, l.flags)
		}
	}
	r := rand.New(rand.NewSource(124))
	for range 3000 {
		n := r.Intn(5)
		all := anyList(r, n*n)
		for i, b := range all {
			if !word.Finite(b) {
				all[i] = b &^ (1 << 62)
			}
		}
		a, b := spread(n, n, n+r.Intn(2), all), anyList(r, n)
		dataWas, bWas := slices.Clone(a.Data), slices.Clone(b)
		x, told, e := Pivot(&soft.Calc{}, a, b, word.Abs(anyNumber(r)))
		if e != api.OK || len(x) != n || n == 0 && told {
			t.Fatalf("Pivot(%v, %x) = %x, %t, %d", a, b, x, told, e)
		}
		for i := range x {
			x[i] = ^x[i]
		}
		if !slices.Equal(a.Data, dataWas) || !slices.Equal(b, bWas) {
			t.Fatal("an argument changed, or is shared")
		}
	}
}

// anyNumber is one that isn't a zero.
func anyNumber(r *rand.Rand) uint64 {
	for {
		if b := r.Uint64(); word.Finite(b) && word.Abs(b) != 0 {
			return b
		}
	}
}

// systemOfKind is a matrix of a kind: of like sizes, of unlike ones, of small whole numbers, of rows that hang on each other, or one in which numbers grow.
func systemOfKind(r *rand.Rand, n, kind int) mat.Matrix {
	a := spread(n, n, n, plain(r, n*n, []int{0, 40, 0, 2, 0}[kind]))
	switch {
	case kind == 2:
		for i := range a.Data {
			a.Data[i] = word.Of(float64(r.Intn(5) - 2))
		}
	case kind == 3 && n > 1:
		for k := range n {
			b := a.At(0, k)
			if r.Intn(3) == 0 {
				b = word.Next(b)
			}
			a.Set(n-1, k, b)
		}
	case kind == 4:
		for i := range n {
			for k := range n {
				switch {
				case i == k || k == n-1:
					a.Set(i, k, word.One)
				case i > k:
					a.Set(i, k, word.Of(-1))
				default:
					a.Set(i, k, word.Of(math.Ldexp(r.Float64(), -50)))
				}
			}
		}
	}
	return a
}

func greatestOf(m mat.Matrix) *big.Rat {
	most := new(big.Rat)
	for _, b := range m.Data {
		if x := rat(word.Abs(b)); x.Cmp(most) > 0 {
			most = x
		}
	}
	return most
}

// isNear tells whether a system's answer is as near as P12.3 asks; exactly: whether it must be just the answer.
func isNear(a mat.Matrix, b, x []uint64, least uint64, told, exactly bool) bool {
	sizes := new(big.Rat)
	for _, p := range x {
		sizes.Add(sizes, rat(word.Abs(p)))
	}
	bound := new(big.Rat).Mul(greatestOf(a), new(big.Rat).SetFloat64(1000*0x1p-53))
	if told {
		bound.Add(bound, new(big.Rat).Mul(big.NewRat(4, 1), rat(least)))
	}
	bound.Mul(bound, sizes)
	if exactly {
		bound.SetInt64(0)
	}
	for i := range b {
		if miss, _ := misses(rats(a.Data[i*a.Stride:i*a.Stride+a.Cols]), rats(x), rat(b[i])); miss.Cmp(bound) > 0 {
			return false
		}
	}
	return true
}

// P12.3: how far the answer may be from one.
func TestPivotBound(t *testing.T) {
	r := rand.New(rand.NewSource(125))
	held, toldOf, none := 0, 0, 0
	for round := range 6000 {
		n := 1 + r.Intn(4)
		a, b := systemOfKind(r, n, round%5), plain(r, n, 3)
		if r.Intn(3) == 0 {
			b = nums([]float64{4, -8, 0, 2}[:n]...)
		}
		least := word.Of(math.Ldexp(1+r.Float64(), []int{-200, -60, -20, -3, 0, 1, 8}[r.Intn(7)]))
		c := &soft.Calc{}
		x, told, e := Pivot(c, a, b, least)
		if e != api.OK || len(x) != n {
			t.Fatal(e)
		}
		if c.F&^api.Inexact != 0 {
			continue
		}
		held++
		if told {
			toldOf++
		}
		exactly := c.F == 0 && !told
		if exactly {
			none++
		}
		if !isNear(a, b, x, least, told, exactly) {
			t.Fatalf("Pivot(%v, %x, %x) = %x, %t, flags %d, is far off", a, b, least, x, told, c.F)
		}
	}
	if held < 5000 || toldOf < 1000 || held-toldOf < 1000 || none < 100 {
		t.Error("few were held against the bound:", held, toldOf, none)
	}
}

// leastLeads takes the greatest number left as each step's lead: whether least must lead once; false: numbers are too near each other to tell.
func leastLeads(a mat.Matrix, least uint64) (bool, bool) {
	var m [][]float64
	for i := range a.Rows {
		var row []float64
		for k := range a.Cols {
			row = append(row, word.Float(a.At(i, k)))
		}
		m = append(m, row)
	}
	told := false
	for len(m) > 0 {
		row, col, most, second := 0, 0, -1.0, -1.0
		for i := range m {
			for k := range m[i] {
				switch size := math.Abs(m[i][k]); {
				case size > most:
					row, col, most, second = i, k, size, most
				default:
					second = max(second, size)
				}
			}
		}
		limit := word.Float(least)
		if second > most*0.999 || math.Abs(most-limit) < limit*0.001 {
			return false, false
		}
		lead := m[row][col]
		if most < limit {
			told, lead = true, limit
		}
		m = without(m, row, col, lead)
	}
	return told, true
}

// without is what is left when a row was taken away from the others, as one of its numbers led.
func without(m [][]float64, row, col int, lead float64) [][]float64 {
	var left [][]float64
	for i := range m {
		if i == row {
			continue
		}
		var line []float64
		for k := range m[i] {
			if k != col {
				line = append(line, m[i][k]-m[i][col]/lead*m[row][k])
			}
		}
		left = append(left, line)
	}
	return left
}

// P12.3: what is told is what the greatest numbers left say.
func TestPivotTold(t *testing.T) {
	r := rand.New(rand.NewSource(126))
	count := map[bool]int{}
	for range 6000 {
		n := 1 + r.Intn(4)
		a := spread(n, n, n, plain(r, n*n, 2))
		least := word.Of(math.Ldexp(1+r.Float64(), r.Intn(6)-4))
		want, ok := leastLeads(a, least)
		if !ok {
			continue
		}
		count[want]++
		if _, told, _ := Pivot(nil, a, plain(r, n, 0), least); told != want {
			t.Fatalf("Pivot(%v, %x) tells %t", a, least, told)
		}
	}
	if count[true] < 1000 || count[false] < 1000 {
		t.Error("few were told:", count)
	}
}
