package mul

import (
	"math"
	"math/big"
	"math/rand"
	"slices"
	"testing"

	"gimbal/api"
	"gimbal/mat"
	"gimbal/soft"
	"gimbal/vec"
	"gimbal/word"
)

const signals = 0x7ff0000000000001

func nums(all ...float64) []uint64 {
	var out []uint64
	for _, x := range all {
		out = append(out, word.Of(x))
	}
	return out
}

// spread is a matrix of some patterns, row by row, with other ones between its rows that no call may look at.
func spread(rows, cols, stride int, patterns []uint64) mat.Matrix {
	m := mat.Matrix{Rows: rows, Cols: cols, Stride: stride}
	if rows == 0 || cols == 0 {
		return m
	}
	m.Data = slices.Repeat([]uint64{signals}, (rows-1)*stride+cols)
	for i := range rows {
		copy(m.Data[i*stride:], patterns[i*cols:(i+1)*cols])
	}
	return m
}

func edges() []uint64 {
	return []uint64{
		0, word.Minus0, word.Least, word.Flip(word.Least), word.Small, word.One, word.Flip(word.One), word.Of(1.5), word.Of(0.1),
		word.Most, word.Flip(word.Most), word.PosInf, word.NegInf, word.Quiet, word.Flip(word.Quiet), signals,
	}
}

func anyList(r *rand.Rand, n int) []uint64 {
	out := make([]uint64, n)
	for i := range out {
		switch r.Intn(4) {
		case 0:
			out[i] = edges()[r.Intn(len(edges()))]
		case 1:
			out[i] = r.Uint64()
		default:
			out[i] = word.Of(r.NormFloat64())
		}
	}
	return out
}

func finiteList(r *rand.Rand, n int) []uint64 {
	out := anyList(r, n)
	for i, b := range out {
		if !word.Finite(b) {
			out[i] = b &^ (1 << 62)
		}
	}
	return out
}

// plain are numbers of like sizes, so that nothing is Over or Under.
func plain(r *rand.Rand, n int, most int) []uint64 {
	out := make([]uint64, n)
	for i := range out {
		out[i] = word.Of(math.Ldexp(r.NormFloat64(), r.Intn(2*most+1)-most))
	}
	return out
}

func anyMatrix(r *rand.Rand, rows, cols int) mat.Matrix {
	return spread(rows, cols, cols+r.Intn(3), anyList(r, rows*cols))
}

// rowOf and columnOf are taken by places alone.
func rowOf(m mat.Matrix, i int) []uint64 {
	var out []uint64
	for k := range m.Cols {
		out = append(out, m.At(i, k))
	}
	return out
}

func columnOf(m mat.Matrix, k int) []uint64 {
	var out []uint64
	for i := range m.Rows {
		out = append(out, m.At(i, k))
	}
	return out
}

func isLaid(m mat.Matrix, rows, cols int) bool {
	return m.Rows == rows && m.Cols == cols && m.Stride == cols && len(m.Data) == rows*cols
}

func isZeroMatrix(m mat.Matrix) bool {
	return m.Rows == 0 && m.Cols == 0 && m.Stride == 0 && len(m.Data) == 0
}

// wrong has matrices that aren't right.
func wrong() []mat.Matrix {
	few := make([]uint64, 8)
	return []mat.Matrix{
		{Rows: -1}, {Cols: -1}, {Rows: api.MaxN + 1}, {Stride: 1<<40 + 1}, {Rows: 3, Cols: 3, Stride: 2, Data: few},
		{Rows: 3, Cols: 3, Stride: 3, Data: few}, {Rows: 3, Cols: 3, Stride: -3, Data: few}, {Rows: 3, Cols: 3},
		{Rows: 3, Cols: 3, Stride: math.MaxInt, Data: few}, {Rows: math.MaxInt, Cols: math.MinInt, Stride: 3, Data: few},
	}
}

// P11.1: Gemv is layer 10's Dot of each row, with all flags.
func TestGemv(t *testing.T) {
	if v, e := Gemv(nil, mat.One(3), nums(4, -5, 6)); e != api.OK || !slices.Equal(v, nums(4, -5, 6)) {
		t.Errorf("Gemv %x %d", v, e)
	}
	if v, e := Gemv(nil, mat.Matrix{Rows: 2}, nil); e != api.OK || !slices.Equal(v, []uint64{0, 0}) {
		t.Errorf("Gemv of no columns %x %d", v, e)
	}
	if v, e := Gemv(nil, mat.Matrix{Cols: 2, Stride: 2}, nums(1, 2)); e != api.OK || len(v) != 0 {
		t.Errorf("Gemv of no rows %x %d", v, e)
	}
	if v, _ := Gemv(nil, mat.Matrix{Rows: 1, Cols: 1, Stride: 1, Data: nums(1)}, []uint64{word.Minus0}); v[0] != 0 {
		t.Errorf("Gemv begins at plus zero: %x", v)
	}
	r := rand.New(rand.NewSource(111))
	for range 1500 {
		a := anyMatrix(r, r.Intn(5), r.Intn(5))
		x := anyList(r, a.Cols)
		dataWas, xWas := slices.Clone(a.Data), slices.Clone(x)
		want := &soft.Calc{F: api.ByZero}
		var dots []uint64
		for i := range a.Rows {
			d, _ := vec.Dot(want, rowOf(a, i), x)
			dots = append(dots, d)
		}
		c := &soft.Calc{F: api.ByZero}
		v, e := Gemv(c, a, x)
		if e != api.OK || !slices.Equal(v, dots) || c.F != want.F {
			t.Fatalf("Gemv(%v, %x) = %x, %d, flags %d; want %x, flags %d", a, x, v, e, c.F, dots, want.F)
		}
		if w, _ := Gemv(nil, a, x); !slices.Equal(w, v) {
			t.Fatal("another Gemv without a Calc")
		}
		for i := range v {
			v[i] = ^v[i]
		}
		if !slices.Equal(a.Data, dataWas) || !slices.Equal(x, xWas) {
			t.Fatal("an argument changed, or is shared")
		}
	}
}

// P11.1: of Ger f is reckoned once a row, first, and the sum is of what stands there.
func TestGer(t *testing.T) {
	// (2^600 2^600) 2^-600 is infinite, 2^600 (2^600 2^-600) isn't.
	g, e := Ger(nil, mat.New(1, 1), word.Of(0x1p600), nums(0x1p600), nums(0x1p-600))
	if e != api.OK || !slices.Equal(g.Data, []uint64{word.PosInf}) {
		t.Errorf("Ger %v %d", g, e)
	}
	c := &soft.Calc{}
	if g, e := Ger(c, mat.Matrix{Rows: 1}, word.Most, nums(2), nil); e != api.OK || !isLaid(g, 1, 0) || c.F != api.Over|api.Inexact {
		t.Errorf("Ger of no columns %v %d, flags %d", g, e, c.F)
	}
	if g, e := Ger(nil, mat.Matrix{Cols: 2, Stride: 9}, word.One, nil, nums(1, 2)); e != api.OK || !isLaid(g, 0, 2) {
		t.Errorf("Ger of no rows %v %d", g, e)
	}
	r := rand.New(rand.NewSource(112))
	for range 1500 {
		m := anyMatrix(r, r.Intn(5), r.Intn(5))
		x, y, a := anyList(r, m.Rows), anyList(r, m.Cols), anyList(r, 1)[0]
		dataWas, xWas, yWas := slices.Clone(m.Data), slices.Clone(x), slices.Clone(y)
		want := &soft.Calc{F: api.ByZero}
		var sums []uint64
		for i := range m.Rows {
			f := want.Mul(a, x[i])
			row, _ := vec.Axpy(want, f, y, rowOf(m, i))
			sums = append(sums, row...)
		}
		c := &soft.Calc{F: api.ByZero}
		g, e := Ger(c, m, a, x, y)
		if e != api.OK || !isLaid(g, m.Rows, m.Cols) || !slices.Equal(g.Data, sums) || c.F != want.F {
			t.Fatalf("Ger(%v, %x, %x, %x) = %v, %d, flags %d; want %x, flags %d", m, a, x, y, g, e, c.F, sums, want.F)
		}
		if h, _ := Ger(nil, m, a, x, y); !h.Same(g) {
			t.Fatal("another Ger without a Calc")
		}
		for i := range g.Data {
			g.Data[i] = ^g.Data[i]
		}
		if !slices.Equal(m.Data, dataWas) || !slices.Equal(x, xWas) || !slices.Equal(y, yWas) {
			t.Fatal("an argument changed, or is shared")
		}
	}
}

// P11.1: Gemm is layer 10's Dot of each row and each column.
func TestGemm(t *testing.T) {
	if p, e := Gemm(nil, mat.Matrix{Rows: 2}, mat.Matrix{Cols: 3, Stride: 7}); e != api.OK || !isLaid(p, 2, 3) || !p.Same(mat.New(2, 3)) {
		t.Errorf("Gemm of nothing between %v %d", p, e)
	}
	if p, e := Gemm(nil, mat.Matrix{Cols: 2, Stride: 2}, mat.New(2, 3)); e != api.OK || !isLaid(p, 0, 3) {
		t.Errorf("Gemm of no rows %v %d", p, e)
	}
	if p, e := Gemm(nil, mat.New(3, 2), mat.Matrix{Rows: 2}); e != api.OK || !isLaid(p, 3, 0) {
		t.Errorf("Gemm of no columns %v %d", p, e)
	}
	r := rand.New(rand.NewSource(113))
	for range 1500 {
		a := anyMatrix(r, r.Intn(5), r.Intn(5))
		b := anyMatrix(r, a.Cols, r.Intn(5))
		aWas, bWas := slices.Clone(a.Data), slices.Clone(b.Data)
		want := &soft.Calc{F: api.ByZero}
		var dots []uint64
		for i := range a.Rows {
			for k := range b.Cols {
				d, _ := vec.Dot(want, rowOf(a, i), columnOf(b, k))
				dots = append(dots, d)
			}
		}
		c := &soft.Calc{F: api.ByZero}
		p, e := Gemm(c, a, b)
		if e != api.OK || !isLaid(p, a.Rows, b.Cols) || !slices.Equal(p.Data, dots) || c.F != want.F {
			t.Fatalf("Gemm(%v, %v) = %v, %d, flags %d; want %x, flags %d", a, b, p, e, c.F, dots, want.F)
		}
		if q, _ := Gemm(nil, a, b); !q.Same(p) {
			t.Fatal("another Gemm without a Calc")
		}
		for i := range p.Data {
			p.Data[i] = ^p.Data[i]
		}
		if !slices.Equal(a.Data, aWas) || !slices.Equal(b.Data, bWas) {
			t.Fatal("an argument changed, or is shared")
		}
	}
}

// P11.1: a matrix and itself, and an answer that stays as it is when its argument changes.
func TestGemmSelf(t *testing.T) {
	m := spread(2, 2, 3, nums(1, 2, 3, 4))
	p, e := Gemm(nil, m, m)
	m.Set(0, 0, word.Quiet)
	if e != api.OK || !slices.Equal(p.Data, nums(7, 10, 15, 22)) {
		t.Errorf("Gemm %v %d", p, e)
	}
}

// P11.1 and P11.2: sizes that don't fit, and matrices that aren't right; the Calc is left alone.
func TestShape(t *testing.T) {
	c := &soft.Calc{}
	loud := slices.Repeat([]uint64{signals}, 6)
	m := spread(2, 3, 3, loud)
	for _, n := range []int{0, 2, 4} {
		if v, e := Gemv(c, m, loud[:n]); e != api.ErrShape || len(v) != 0 {
			t.Errorf("Gemv of %d: %x %d", n, v, e)
		}
		if g, e := Ger(c, m, word.Most, loud[:2], loud[:n]); e != api.ErrShape || !isZeroMatrix(g) {
			t.Errorf("Ger of 2 and %d: %v %d", n, g, e)
		}
	}
	for _, n := range []int{0, 1, 3} {
		if g, e := Ger(c, m, word.Most, loud[:n], loud[:3]); e != api.ErrShape || !isZeroMatrix(g) {
			t.Errorf("Ger of %d and 3: %v %d", n, g, e)
		}
	}
	for _, b := range []mat.Matrix{m, mat.New(2, 2), mat.New(4, 3), {}} {
		if p, e := Gemm(c, m, b); e != api.ErrShape || !isZeroMatrix(p) {
			t.Errorf("Gemm %v %d", p, e)
		}
	}
	for i, w := range wrong() {
		right := mat.New(3, 3)
		_, e1 := Gemv(c, w, loud[:3])
		_, e2 := Ger(c, w, word.Most, loud[:3], loud[:3])
		p, e3 := Gemm(c, w, right)
		q, e4 := Gemm(c, right, w)
		n, e5 := Norm(c, w, -1)
		for k, e := range []api.Errno{e1, e2, e3, e4, e5} {
			if e != api.ErrShape {
				t.Errorf("wrong %d, call %d: %d", i, k, e)
			}
		}
		if !isZeroMatrix(p) || !isZeroMatrix(q) || n != 0 {
			t.Errorf("wrong %d: something came of it", i)
		}
	}
	if c.F != 0 {
		t.Error("flags of what was not reckoned", c.F)
	}
}

// P11.2: the norms by their words, with the flags of the sums alone.
func TestNorm(t *testing.T) {
	r := rand.New(rand.NewSource(114))
	for range 2000 {
		rows, cols := r.Intn(5), r.Intn(5)
		m := spread(rows, cols, cols+r.Intn(3), finiteList(r, rows*cols))
		was := slices.Clone(m.Data)
		byRow, byColumn := &soft.Calc{F: api.ByZero}, &soft.Calc{F: api.ByZero}
		most, rowSum, columnSum := 0.0, 0.0, 0.0
		for i := range rows {
			rowSum = max(rowSum, word.Float(vec.Asum(byRow, rowOf(m, i))))
			for _, b := range rowOf(m, i) {
				most = max(most, math.Abs(word.Float(b)))
			}
		}
		for k := range cols {
			columnSum = max(columnSum, word.Float(vec.Asum(byColumn, columnOf(m, k))))
		}
		for _, l := range []struct {
			kind  int
			want  float64
			flags api.Flags
		}{{MaxNorm, most, api.ByZero}, {OneNorm, columnSum, byColumn.F}, {InfNorm, rowSum, byRow.F}} {
			c := &soft.Calc{F: api.ByZero}
			n, e := Norm(c, m, l.kind)
			if e != api.OK || n != word.Of(l.want) || c.F != l.flags || !slices.Equal(m.Data, was) {
				t.Fatalf("Norm(%v, %d) = %x, %d, flags %d; want %g, flags %d", m, l.kind, n, e, c.F, l.want, l.flags)
			}
			if again, _ := Norm(nil, m, l.kind); again != n {
				t.Fatal("another Norm without a Calc")
			}
		}
	}
}

// P11.2: the document's example, zeros, none, and sums beyond all numbers.
func TestNormEdges(t *testing.T) {
	for i, l := range []struct {
		m                mat.Matrix
		most, one, inf   uint64
		oneFlag, infFlag api.Flags
	}{
		{m: spread(1, 2, 2, nums(3, -5)), most: word.Of(5), one: word.Of(5), inf: word.Of(8)},
		{m: spread(2, 1, 4, nums(3, -5)), most: word.Of(5), one: word.Of(8), inf: word.Of(5)},
		{m: mat.Matrix{}}, {m: mat.Matrix{Rows: 3}}, {m: mat.Matrix{Cols: 3, Stride: 5}},
		{m: spread(1, 2, 2, []uint64{word.Minus0, word.Minus0})},
		{m: spread(1, 1, 1, []uint64{word.Flip(word.Least)}), most: word.Least, one: word.Least, inf: word.Least},
		{m: spread(1, 2, 2, []uint64{word.Most, word.Flip(word.Most)}), most: word.Most, one: word.Most, inf: word.PosInf, infFlag: api.Over | api.Inexact},
		{m: spread(2, 1, 1, []uint64{word.Flip(word.Most), word.Most}), most: word.Most, one: word.PosInf, inf: word.Most, oneFlag: api.Over | api.Inexact},
		// The flags of a sum that isn't the greatest count, too; and the order of a sum tells in what is lost.
		{m: spread(2, 2, 2, nums(1, 0x1p-60, 3, 0)), most: word.Of(3), one: word.Of(4), inf: word.Of(3), infFlag: api.Inexact},
		{m: spread(1, 3, 3, nums(0x1p53, 1, 1)), most: word.Of(0x1p53), one: word.Of(0x1p53), inf: word.Of(0x1p53), infFlag: api.Inexact},
		{m: spread(1, 3, 3, nums(1, 1, 0x1p53)), most: word.Of(0x1p53), one: word.Of(0x1p53), inf: word.Of(0x1p53 + 2)},
		{m: spread(3, 1, 1, nums(0x1p53, -1, 1)), most: word.Of(0x1p53), one: word.Of(0x1p53), inf: word.Of(0x1p53), oneFlag: api.Inexact},
		{m: spread(3, 1, 1, nums(1, -1, 0x1p53)), most: word.Of(0x1p53), one: word.Of(0x1p53 + 2), inf: word.Of(0x1p53)},
	} {
		for _, k := range []struct {
			kind  int
			want  uint64
			flags api.Flags
		}{{MaxNorm, l.most, 0}, {OneNorm, l.one, l.oneFlag}, {InfNorm, l.inf, l.infFlag}} {
			c := &soft.Calc{}
			if n, e := Norm(c, l.m, k.kind); e != api.OK || n != k.want || c.F != k.flags {
				t.Errorf("%d: Norm of kind %d: %x, %d, flags %d; want %x, flags %d", i, k.kind, n, e, c.F, k.want, k.flags)
			}
		}
	}
}

// P11.2: kinds that are none, and what isn't Finite: in this order.
func TestNormErrors(t *testing.T) {
	if MaxNorm != 1 || OneNorm != 2 || InfNorm != 3 {
		t.Error("the kinds are", MaxNorm, OneNorm, InfNorm)
	}
	c := &soft.Calc{}
	lossy := nums(1, 0x1p-60, 0x1p-60, 1)
	for _, kind := range []int{0, -1, 4, math.MinInt, math.MaxInt} {
		for _, b := range []uint64{word.One, word.Quiet} {
			m := spread(2, 2, 3, lossy)
			m.Set(1, 1, b)
			if n, e := Norm(c, m, kind); e != api.ErrArg || n != 0 {
				t.Errorf("Norm of kind %d: %x %d", kind, n, e)
			}
		}
	}
	for _, b := range []uint64{word.PosInf, word.NegInf, word.Quiet, signals, math.MaxUint64} {
		m := spread(2, 2, 3, lossy)
		m.Set(1, 1, b)
		for _, kind := range []int{MaxNorm, OneNorm, InfNorm} {
			if n, e := Norm(c, m, kind); e != api.ErrPlain || n != 0 {
				t.Errorf("Norm of %x, kind %d: %x %d", b, kind, n, e)
			}
		}
	}
	if c.F != 0 {
		t.Error("flags of what was not reckoned", c.F)
	}
}

func exact(b uint64) *big.Float { return new(big.Float).SetPrec(9000).SetFloat64(word.Float(b)) }

// P11.3: how far Gemm may differ, also where products cancel.
func TestGemmBound(t *testing.T) {
	r := rand.New(rand.NewSource(115))
	for round := range 40 {
		rows, n, cols := 1+r.Intn(4), 1+r.Intn(30), 1+r.Intn(4)
		a, b := spread(rows, n, n, plain(r, rows*n, 100)), spread(n, cols, cols, plain(r, n*cols, 100))
		for j := n / 2; j < n && round%2 == 1; j++ {
			for i := range rows {
				a.Set(i, j, word.Flip(a.At(i, j-n/2)))
			}
			for k := range cols {
				b.Set(j, k, word.Next(b.At(j-n/2, k)))
			}
		}
		c := &soft.Calc{}
		p, _ := Gemm(c, a, b)
		if c.F&^api.Inexact != 0 {
			t.Fatal("flags", c.F)
		}
		for i := range rows {
			for k := range cols {
				checkSum(t, p.At(i, k), rowOf(a, i), columnOf(b, k))
			}
		}
	}
}

func checkSum(t *testing.T, got uint64, x, y []uint64) {
	t.Helper()
	sum, sizes := new(big.Float).SetPrec(9000), new(big.Float).SetPrec(9000)
	for i := range x {
		product := new(big.Float).SetPrec(9000).Mul(exact(x[i]), exact(y[i]))
		sum.Add(sum, product)
		sizes.Add(sizes, product.Abs(product))
	}
	bound := sizes.Mul(sizes, big.NewFloat(float64(2*len(x))*0x1p-53))
	if diff := sum.Sub(exact(got), sum); diff.Abs(diff).Cmp(bound) > 0 {
		t.Fatalf("a sum of %d products differs by %g, and may by %g", len(x), diff, bound)
	}
}
