package mat

import (
	"math"
	"math/big"
	"math/rand"
	"slices"
	"testing"

	"gimbal/api"
	"gimbal/dyad"
	"gimbal/more"
	"gimbal/word"
)

const signals = 0x7ff0000000000001

func nums(all ...float64) []uint64 {
	var out []uint64
	for _, x := range all {
		out = append(out, word.Of(x))
	}
	return out
}

// spread is a matrix of some patterns, row by row, with other ones between its rows that no call may look at.
func spread(rows, cols, stride int, patterns []uint64) Matrix {
	m := Matrix{Rows: rows, Cols: cols, Stride: stride}
	if rows == 0 || cols == 0 {
		return m
	}
	m.Data = slices.Repeat([]uint64{signals}, (rows-1)*stride+cols)
	for i := range rows {
		copy(m.Data[i*stride:], patterns[i*cols:(i+1)*cols])
	}
	return m
}

func anyPatterns(r *rand.Rand, n int) []uint64 {
	out := make([]uint64, n)
	for i := range out {
		out[i] = r.Uint64()
		if r.Intn(4) == 0 {
			out[i] &^= 0x7ff << 52 // a Sub, or a zero
		}
		if r.Intn(8) == 0 {
			out[i] &= 1 << 63
		}
	}
	return out
}

func finitePatterns(r *rand.Rand, n int) []uint64 {
	out := anyPatterns(r, n)
	for i, b := range out {
		if !word.Finite(b) {
			out[i] = b &^ (1 << 62)
		}
	}
	return out
}

func wants(t *testing.T, what string, m Matrix, rows, cols int, patterns []uint64) {
	t.Helper()
	if m.Rows != rows || m.Cols != cols || m.Stride != cols || !slices.Equal(m.Data, patterns) {
		t.Errorf("%s: %d by %d, Stride %d, %x; want %d by %d of %x", what, m.Rows, m.Cols, m.Stride, m.Data, rows, cols, patterns)
	}
}

func isZeroMatrix(m Matrix) bool {
	return m.Rows == 0 && m.Cols == 0 && m.Stride == 0 && len(m.Data) == 0
}

// wrong has matrices that aren't right, each for one reason.
func wrong() []Matrix {
	few := make([]uint64, 11)
	return []Matrix{
		{Rows: -1}, {Cols: -1}, {Rows: -1, Cols: -1, Stride: -1}, {Stride: -1}, {Cols: -1, Stride: -1},
		{Rows: api.MaxN + 1}, {Cols: api.MaxN + 1, Stride: api.MaxN + 1},
		{Rows: api.MaxN + 1, Cols: 1, Stride: 1, Data: make([]uint64, api.MaxN+1)},
		{Rows: 1, Cols: api.MaxN + 1, Stride: api.MaxN + 1, Data: make([]uint64, api.MaxN+1)},
		{Rows: 2, Cols: 3, Stride: 2, Data: few}, {Rows: 0, Cols: 3, Stride: 2},
		{Rows: 3, Cols: 3, Stride: -3, Data: few}, {Rows: 3, Cols: 3, Stride: 0, Data: few},
		{Rows: 1, Cols: 1, Stride: 1<<40 + 1, Data: few}, {Stride: 1<<40 + 1},
		{Rows: 3, Cols: 4, Stride: 4, Data: few}, {Rows: 3, Cols: 2, Stride: 5, Data: few}, {Rows: 1, Cols: 1, Stride: 1},
		{Rows: 2, Cols: 1, Stride: 1 << 40, Data: few}, {Rows: api.MaxN, Cols: api.MaxN, Stride: 1 << 40, Data: few},
		{Rows: math.MaxInt, Cols: math.MaxInt, Stride: math.MaxInt, Data: few},
		{Rows: math.MinInt, Cols: math.MinInt, Stride: math.MinInt, Data: few},
		{Rows: 3, Cols: 3, Stride: math.MaxInt, Data: few}, {Rows: 3, Cols: 3, Stride: math.MinInt, Data: few},
		{Rows: 3, Cols: math.MaxInt, Stride: math.MaxInt, Data: few},
	}
}

// P9.1: what is right, and what is just beyond it.
func TestCheck(t *testing.T) {
	for i, m := range wrong() {
		if e := m.Check(); e != api.ErrShape {
			t.Errorf("wrong %d: %d", i, e)
		}
	}
	eleven := make([]uint64, 11)
	for i, m := range []Matrix{
		{}, {Rows: api.MaxN}, {Cols: api.MaxN, Stride: api.MaxN}, {Stride: 1 << 40}, {Rows: 5, Stride: 1 << 40}, {Cols: 5, Stride: 1 << 40},
		{Rows: 1, Cols: 11, Stride: 11, Data: eleven}, {Rows: 11, Cols: 1, Stride: 1, Data: eleven},
		{Rows: 1, Cols: 11, Stride: 1 << 40, Data: eleven}, {Rows: 3, Cols: 1, Stride: 5, Data: eleven}, {Rows: 2, Cols: 5, Stride: 6, Data: eleven},
		{Rows: 2, Cols: 2, Stride: 2, Data: eleven},
		{Rows: api.MaxN, Cols: 1, Stride: 1, Data: make([]uint64, api.MaxN)}, {Rows: 1, Cols: api.MaxN, Stride: api.MaxN, Data: make([]uint64, api.MaxN)},
	} {
		if e := m.Check(); e != api.OK {
			t.Errorf("right %d: %d", i, e)
		}
	}
}

// P9.1: New and One, and sizes that can't be.
func TestNew(t *testing.T) {
	wants(t, "New", New(2, 3), 2, 3, make([]uint64, 6))
	wants(t, "New", New(0, 3), 0, 3, nil)
	wants(t, "New", New(3, 0), 3, 0, nil)
	wants(t, "New", New(0, 0), 0, 0, nil)
	wants(t, "New", New(1, api.MaxN), 1, api.MaxN, make([]uint64, api.MaxN))
	wants(t, "New", New(api.MaxN, 2), api.MaxN, 2, make([]uint64, 2*api.MaxN))
	wants(t, "One", One(0), 0, 0, nil)
	wants(t, "One", One(1), 1, 1, nums(1))
	wants(t, "One", One(3), 3, 3, nums(1, 0, 0, 0, 1, 0, 0, 0, 1))
	for _, n := range []int{-1, api.MaxN + 1, math.MinInt, math.MaxInt} {
		for i, m := range []Matrix{New(n, 1), New(1, n), New(n, n), New(0, n), New(n, 0), One(n)} {
			if !isZeroMatrix(m) {
				t.Errorf("size %d, case %d: %v", n, i, m)
			}
		}
	}
}

// P9.1: At and Set, at each place and beside the matrix.
func TestPlaces(t *testing.T) {
	m := spread(2, 3, 5, nums(1, 2, 3, 4, 5, 6))
	m.Data = append(m.Data, make([]uint64, 20)...) // what lies behind the last row is no place either
	for i := -1; i <= 2; i++ {
		for k := -1; k <= 5; k++ {
			want := word.Quiet
			inside := i >= 0 && i < 2 && k >= 0 && k < 3
			if inside {
				want = word.Of(float64(3*i + k + 1))
			}
			if b := m.At(i, k); b != want {
				t.Errorf("At(%d, %d) = %x, want %x", i, k, b, want)
			}
			before := slices.Clone(m.Data)
			m.Set(i, k, 7)
			if inside {
				if m.At(i, k) != 7 || m.Data[5*i+k] != 7 {
					t.Errorf("Set(%d, %d)", i, k)
				}
				m.Data[5*i+k] = before[5*i+k]
			}
			if !slices.Equal(m.Data, before) {
				t.Errorf("Set(%d, %d) changed another place", i, k)
			}
		}
	}
	for _, far := range []int{math.MinInt, math.MaxInt} {
		m.Set(far, 0, 7)
		m.Set(0, far, 7)
		m.Set(far, far, 7)
		if m.At(far, 0) != word.Quiet || m.At(0, far) != word.Quiet || m.At(far, far) != word.Quiet || slices.Contains(m.Data, 7) {
			t.Error("a place far off", far)
		}
	}
	if New(0, 5).At(0, 0) != word.Quiet || New(5, 0).At(0, 0) != word.Quiet {
		t.Error("a place where there is none")
	}
}

// P9.2: Clone and Turn, of any sizes and strides, in new memory.
func TestCloneTurn(t *testing.T) {
	r := rand.New(rand.NewSource(91))
	for range 300 {
		rows, cols := r.Intn(6), r.Intn(6)
		all := anyPatterns(r, rows*cols)
		m := spread(rows, cols, cols+r.Intn(3), all)
		before := slices.Clone(m.Data)
		c, turned := m.Clone(), m.Turn()
		wants(t, "Clone", c, rows, cols, all)
		var columns []uint64
		for k := range cols {
			for i := range rows {
				columns = append(columns, all[i*cols+k])
			}
		}
		wants(t, "Turn", turned, cols, rows, columns)
		for i := range c.Data {
			c.Data[i], turned.Data[i] = 7, 8
		}
		if !slices.Equal(m.Data, before) {
			t.Fatal("Clone or Turn share the matrix's memory")
		}
	}
}

// P9.2: Cut, at each place and size, and beyond.
func TestCut(t *testing.T) {
	all := make([]uint64, 12)
	for i := range all {
		all[i] = uint64(i)
	}
	m := spread(3, 4, 6, all)
	for i := -1; i <= 4; i++ {
		for k := -1; k <= 5; k++ {
			for rows := -1; rows <= 4; rows++ {
				for cols := -1; cols <= 5; cols++ {
					checkCut(t, m, i, k, rows, cols)
				}
			}
		}
	}
	for _, far := range []int{math.MinInt, math.MaxInt} {
		for at := range 4 {
			a := []int{1, 1, 1, 1}
			a[at] = far
			checkCut(t, m, a[0], a[1], a[2], a[3])
			a = []int{far, far, far, far}
			a[at] = 0
			checkCut(t, m, a[0], a[1], a[2], a[3])
		}
	}
	if _, e := (Matrix{Rows: 1, Cols: 1, Stride: 1}).Cut(0, 0, 0, 0); e != api.ErrShape {
		t.Error("Cut of what isn't right", e)
	}
	piece, e := m.Cut(0, 0, 3, 4)
	piece.Data[0] = 99
	if e != api.OK || m.Data[0] == 99 {
		t.Error("Cut shares the matrix's memory", e)
	}
	if piece, e := New(0, 3).Cut(0, 1, 0, 2); e != api.OK || piece.Rows != 0 || piece.Cols != 2 {
		t.Error("Cut of no rows", piece, e)
	}
	if piece, e := (Matrix{Rows: 3, Stride: 9}).Cut(1, 0, 2, 0); e != api.OK || piece.Rows != 2 || piece.Cols != 0 {
		t.Error("Cut of no columns", piece, e)
	}
}

func checkCut(t *testing.T, m Matrix, i, k, rows, cols int) {
	t.Helper()
	piece, e := m.Cut(i, k, rows, cols)
	fits := i >= 0 && k >= 0 && rows >= 0 && cols >= 0 && rows <= m.Rows && cols <= m.Cols && i <= m.Rows-rows && k <= m.Cols-cols
	if !fits {
		if e != api.ErrShape || !isZeroMatrix(piece) {
			t.Errorf("Cut(%d, %d, %d, %d) = %v, %d, want ErrShape", i, k, rows, cols, piece, e)
		}
		return
	}
	var want []uint64
	for r := range rows {
		for c := range cols {
			want = append(want, m.At(i+r, k+c))
		}
	}
	if e != api.OK {
		t.Errorf("Cut(%d, %d, %d, %d): %d", i, k, rows, cols, e)
	}
	wants(t, "Cut", piece, rows, cols, want)
}

// P9.2: Finite, with one pattern at each place; what stands between the rows doesn't count.
func TestFinite(t *testing.T) {
	if !New(0, 0).Finite() || !New(0, 3).Finite() || !New(3, 0).Finite() {
		t.Error("Finite of nothing")
	}
	for at := range 6 {
		for _, b := range []uint64{word.PosInf, word.NegInf, word.Quiet, signals, word.Flip(signals), math.MaxUint64} {
			m := spread(2, 3, 4, make([]uint64, 6))
			if !m.Finite() {
				t.Error("Finite of zeros")
			}
			m.Set(at/3, at%3, b)
			if m.Finite() {
				t.Errorf("Finite with %x at %d", b, at)
			}
		}
		for _, b := range []uint64{word.Most, word.Flip(word.Most), word.Least, word.Small, word.Minus0} {
			m := spread(2, 3, 3, make([]uint64, 6))
			m.Set(at/3, at%3, b)
			if !m.Finite() {
				t.Errorf("Finite with %x at %d", b, at)
			}
		}
	}
}

// bigSquare is the sum of squares times 2^2148, which is a whole number.
func bigSquare(patterns []uint64) *big.Int {
	sum := new(big.Int)
	for _, b := range patterns {
		whole, exp := word.Parts(b)
		if whole != 0 {
			n := new(big.Int).Lsh(new(big.Int).SetUint64(whole), uint(exp+1074))
			sum.Add(sum, n.Mul(n, n))
		}
	}
	return sum
}

// isBig tells whether an exact number times 2^2148 is a whole one: by its words of 32 bits.
func isBig(n dyad.Num, want *big.Int) bool {
	sum := dyad.Num{}
	rest := new(big.Int).Set(want)
	low := big.NewInt(1<<32 - 1)
	for at := -2148; rest.Sign() != 0; at += 32 {
		part := int(new(big.Int).And(rest, low).Int64())
		sum = sum.Add(dyad.Int(part).Mul(dyad.Two(at)))
		rest.Rsh(rest, 32)
	}
	return n.Same(sum)
}

// P9.2: Square, exactly.
func TestSquare(t *testing.T) {
	if !spread(2, 2, 3, nums(1, 2, 3, -8)).Square().Same(dyad.Int(78)) {
		t.Error("Square of 1 2 3 -8")
	}
	if New(0, 3).Square().Sign() != 0 || New(2, 2).Square().Sign() != 0 {
		t.Error("Square of nothing")
	}
	mixed := []uint64{word.PosInf, word.Of(3), word.Quiet, word.Of(-4), signals, word.NegInf}
	if !spread(2, 3, 3, mixed).Square().Same(dyad.Int(25)) {
		t.Error("Square of what isn't finite")
	}
	edges := []uint64{word.Most, word.Least, word.Flip(word.Most), word.Small, word.Minus0, word.One}
	if !isBig(spread(3, 2, 2, edges).Square(), bigSquare(edges)) {
		t.Error("Square of the greatest and the least")
	}
	r := rand.New(rand.NewSource(92))
	for range 100 {
		rows, cols := r.Intn(5), r.Intn(5)
		all := anyPatterns(r, rows*cols)
		if !isBig(spread(rows, cols, cols+r.Intn(3), all).Square(), bigSquare(all)) {
			t.Errorf("Square of %x", all)
		}
	}
}

// P9.2: Same holds patterns against each other, not values, and sizes, not strides.
func TestSame(t *testing.T) {
	all := []uint64{word.Quiet, signals, word.Minus0, 0, word.One, word.PosInf}
	m := spread(2, 3, 3, all)
	if !m.Same(spread(2, 3, 7, all)) || !spread(2, 3, 5, all).Same(m) || !m.Same(m) {
		t.Error("the same patterns with another stride")
	}
	if m.Same(spread(3, 2, 2, all)) || m.Same(spread(2, 2, 3, all)) || m.Same(spread(1, 3, 3, all)) || spread(1, 3, 3, all).Same(m) {
		t.Error("other sizes")
	}
	for at := range all {
		other := slices.Clone(all)
		other[at] ^= 1 << 63
		if m.Same(spread(2, 3, 4, other)) || spread(2, 3, 4, other).Same(m) {
			t.Error("another pattern at", at)
		}
	}
	if !New(0, 3).Same(Matrix{Cols: 3, Stride: 9}) || New(0, 3).Same(New(0, 2)) || New(0, 0).Same(New(3, 0)) || !(Matrix{}).Same(New(0, 0)) {
		t.Error("no rows, or no columns")
	}
}

// checkUnit asks for the greatest e such that one is 2^e at least, and for all divided by that.
func checkUnit(t *testing.T, all []uint64) {
	t.Helper()
	most := 0.0
	for _, b := range all {
		most = max(most, math.Abs(word.Float(b)))
	}
	want := 0
	if most > 0 {
		_, e := math.Frexp(most)
		want = e - 1
	}
	var scaled []uint64
	for _, b := range all {
		s, _ := more.Scale(b, -want)
		scaled = append(scaled, s)
	}
	m := spread(1, len(all), len(all)+2, all)
	before := slices.Clone(m.Data)
	unit, e := m.Unit()
	if e != want {
		t.Errorf("Unit of %x: %d, want %d", all, e, want)
	}
	wants(t, "Unit", unit, 1, len(all), scaled)
	if !slices.Equal(before, m.Data) {
		t.Error("Unit changed the matrix")
	}
}

// P9.3: Unit.
func TestUnit(t *testing.T) {
	unit, e := spread(1, 2, 2, nums(3, -5)).Unit() // example 1
	if e != 2 {
		t.Error("Unit of 3 and -5", e)
	}
	wants(t, "Unit of 3 and -5", unit, 1, 2, nums(0.75, -1.25))
	unit, e = spread(2, 2, 3, []uint64{0, word.Minus0, word.Minus0, 0}).Unit()
	if e != 0 {
		t.Error("Unit of zeros", e)
	}
	wants(t, "Unit of zeros", unit, 2, 2, []uint64{0, word.Minus0, word.Minus0, 0})
	unit, e = New(0, 4).Unit()
	if e != 0 {
		t.Error("Unit of nothing", e)
	}
	wants(t, "Unit of nothing", unit, 0, 4, nil)
	unit, e = spread(2, 1, 1, []uint64{word.Flip(word.Least), 0}).Unit()
	if e != -1074 {
		t.Error("Unit of the least", e)
	}
	wants(t, "Unit of the least", unit, 2, 1, nums(-1, 0))
	checkUnit(t, []uint64{word.Most, word.Least, word.Flip(word.Small)})
	checkUnit(t, nums(0x1p100, 0x1.8p-974, -0x1.0000001p-940, 0x3p-975, -0x1p-974)) // some fall beneath all, some are rounded
	checkUnit(t, []uint64{word.Small, word.Small - 1})
	checkUnit(t, []uint64{word.Flip(word.Small - 1), word.Least})
	checkUnit(t, nums(1, -2))
	checkUnit(t, nums(1, -math.Nextafter(2, 0)))
	r := rand.New(rand.NewSource(93))
	for range 500 {
		checkUnit(t, finitePatterns(r, 1+r.Intn(5)))
	}
}

// P9.3: Scale, and the flags of all.
func TestScale(t *testing.T) {
	all := []uint64{word.Of(3), word.Minus0, word.PosInf, word.Flip(word.Least), word.Most, word.Quiet}
	r := rand.New(rand.NewSource(94))
	for _, n := range []int{0, 1, -1, -1075, -1076, -1077, 1023, 2100, -2100, 10001, -10001, math.MaxInt, math.MinInt} {
		checkScale(t, all, n)
		checkScale(t, append(all[:3:3], signals, word.Quiet, word.One), n)
		for range 40 {
			checkScale(t, anyPatterns(r, 6), n)
		}
	}
	if _, f := spread(2, 1, 1, nums(1, 0x1p1000)).Scale(1000); f != api.Over|api.Inexact {
		t.Error("the flags of the last one alone", f)
	}
	if _, f := spread(2, 1, 1, nums(0x1p1000, 1)).Scale(1000); f != api.Over|api.Inexact {
		t.Error("the flags of the first one alone", f)
	}
	if m, f := New(3, 0).Scale(5); f != 0 || m.Rows != 3 || m.Cols != 0 || m.Stride != 0 {
		t.Error("Scale of nothing", m, f)
	}
}

func checkScale(t *testing.T, all []uint64, n int) {
	t.Helper()
	m := spread(2, 3, 4, all)
	before := slices.Clone(m.Data)
	var want []uint64
	var flags api.Flags
	for _, b := range all {
		s, f := more.Scale(b, n)
		want = append(want, s)
		flags |= f
	}
	scaled, f := m.Scale(n)
	wants(t, "Scale", scaled, 2, 3, want)
	if f != flags {
		t.Errorf("Scale of %x by %d: flags %d, want %d", all, n, f, flags)
	}
	scaled.Data[0] = ^scaled.Data[0]
	if !slices.Equal(m.Data, before) {
		t.Error("Scale changed the matrix")
	}
}

// Rule 1: no call panics, nor reckons for ever, at a matrix that isn't right.
func TestWrongMatrices(t *testing.T) {
	right := New(3, 3)
	for i, m := range wrong() {
		for _, at := range []int{math.MinInt, -1, 0, 1, 2, api.MaxN, math.MaxInt} {
			m.At(at, at)
			m.At(0, at)
			m.At(at, 0)
			m.Set(at, at, 0)
			m.Set(0, at, 0)
			m.Set(at, 0, 0)
		}
		unit, e := m.Unit()
		scaled, f := m.Scale(3)
		if !isZeroMatrix(m.Clone()) || !isZeroMatrix(m.Turn()) || !isZeroMatrix(unit) || e != 0 || !isZeroMatrix(scaled) || f != 0 {
			t.Error("something came of", i)
		}
		if m.Finite() || m.Same(m) || m.Same(right) || right.Same(m) || m.Square().Sign() != 0 {
			t.Error("something is told of", i)
		}
		if piece, e := m.Cut(0, 0, 0, 0); e != api.ErrShape || !isZeroMatrix(piece) {
			t.Error("Cut", i, piece, e)
		}
	}
	if unit, e := spread(1, 2, 2, []uint64{word.One, word.PosInf}).Unit(); e != 0 || !isZeroMatrix(unit) {
		t.Error("Unit of what isn't Finite", unit, e)
	}
}
