package solve

import (
	"math"
	"math/big"
	"math/rand"
	"slices"
	"testing"

	"gimbal/api"
	"gimbal/mat"
	"gimbal/soft"
	"gimbal/word"
)

const signals = 0x7ff0000000000001

func nums(all ...float64) []uint64 {
	var out []uint64
	for _, x := range all {
		out = append(out, word.Of(x))
	}
	return out
}

// spread is a matrix of some patterns, row by row, with other ones between its rows that no call may look at.
func spread(rows, cols, stride int, patterns []uint64) mat.Matrix {
	m := mat.Matrix{Rows: rows, Cols: cols, Stride: stride}
	if rows == 0 || cols == 0 {
		return m
	}
	m.Data = slices.Repeat([]uint64{signals}, (rows-1)*stride+cols)
	for i := range rows {
		copy(m.Data[i*stride:], patterns[i*cols:(i+1)*cols])
	}
	return m
}

// square is a matrix of numbers with as many rows as columns.
func square(all ...float64) mat.Matrix {
	n := int(math.Sqrt(float64(len(all))))
	return spread(n, n, n+1, nums(all...))
}

func edges() []uint64 {
	return []uint64{
		0, word.Minus0, word.Least, word.Flip(word.Least), word.Small, word.One, word.Flip(word.One), word.Of(1.5), word.Of(0.1),
		word.Most, word.Flip(word.Most), word.PosInf, word.NegInf, word.Quiet, word.Flip(word.Quiet), signals,
	}
}

func anyList(r *rand.Rand, n int) []uint64 {
	out := make([]uint64, n)
	for i := range out {
		switch r.Intn(5) {
		case 0:
			out[i] = edges()[r.Intn(len(edges()))]
		case 1:
			out[i] = r.Uint64()
		default:
			out[i] = word.Of(r.NormFloat64())
		}
	}
	return out
}

// plain are numbers of like sizes, so that nothing is Over or Under.
func plain(r *rand.Rand, n int, most int) []uint64 {
	out := make([]uint64, n)
	for i := range out {
		out[i] = word.Of(math.Ldexp(r.NormFloat64(), r.Intn(2*most+1)-most))
	}
	return out
}

// wrong has matrices that aren't right.
func wrong() []mat.Matrix {
	few := make([]uint64, 8)
	return []mat.Matrix{
		{Rows: -1}, {Cols: -1}, {Rows: api.MaxN + 1}, {Stride: 1<<40 + 1}, {Rows: 3, Cols: 3, Stride: 2, Data: few},
		{Rows: 3, Cols: 3, Stride: 3, Data: few}, {Rows: 3, Cols: 3, Stride: -3, Data: few}, {Rows: 3, Cols: 3},
		{Rows: 3, Cols: 3, Stride: math.MaxInt, Data: few}, {Rows: math.MaxInt, Cols: math.MinInt, Stride: 3, Data: few},
	}
}

// isOf tells whether a place is one of a triangle, the diagonal apart.
func isOf(upper bool, i, k int) bool { return upper && k > i || !upper && k < i }

// onlyTriangle is the matrix with something loud in all places that aren't of the triangle.
func onlyTriangle(a mat.Matrix, upper, unit bool) mat.Matrix {
	for i := range a.Rows {
		for k := range a.Cols {
			if !isOf(upper, i, k) && (i != k || unit) {
				a.Set(i, k, signals)
			}
		}
	}
	return a
}

func bools() [][2]bool { return [][2]bool{{false, false}, {false, true}, {true, false}, {true, true}} }

// trmvByTheWords is Trmv step by step.
func trmvByTheWords(c *soft.Calc, a mat.Matrix, upper, unit bool, x []uint64) []uint64 {
	var out []uint64
	for i := range x {
		sum := x[i]
		if !unit {
			sum = c.Mul(a.At(i, i), sum)
		}
		for k := range x {
			if isOf(upper, i, k) {
				sum = c.Add(sum, c.Mul(a.At(i, k), x[k]))
			}
		}
		out = append(out, sum)
	}
	return out
}

// trsvByTheWords is Trsv step by step.
func trsvByTheWords(c *soft.Calc, a mat.Matrix, upper, unit bool, b []uint64) []uint64 {
	x := make([]uint64, len(b))
	for step := range x {
		i := step
		if upper {
			i = len(b) - 1 - step
		}
		x[i] = b[i]
		for k := range x {
			if isOf(upper, i, k) {
				x[i] = c.Sub(x[i], c.Mul(a.At(i, k), x[k]))
			}
		}
		if !unit {
			x[i] = c.Div(x[i], a.At(i, i))
		}
	}
	return x
}

// holdsToTheWords holds one of the two against its steps: numbers, flags, and what it leaves alone.
func holdsToTheWords(t *testing.T, call func(*soft.Calc, mat.Matrix, bool, bool, []uint64) ([]uint64, api.Errno), words func(*soft.Calc, mat.Matrix, bool, bool, []uint64) []uint64, a mat.Matrix, how [2]bool, x []uint64) {
	t.Helper()
	upper, unit := how[0], how[1]
	dataWas, xWas := slices.Clone(a.Data), slices.Clone(x)
	want, c := &soft.Calc{F: api.ByZero}, &soft.Calc{F: api.ByZero}
	all := words(want, a, upper, unit, x)
	got, e := call(c, a, upper, unit, x)
	if e != api.OK || !slices.Equal(got, all) || c.F != want.F {
		t.Fatalf("%v, upper and unit %v, of %x: %x, %d, flags %d; want %x, flags %d", a, how, x, got, e, c.F, all, want.F)
	}
	if again, _ := call(nil, a, upper, unit, x); !slices.Equal(again, got) {
		t.Fatal("another answer without a Calc")
	}
	for i := range got {
		got[i] = ^got[i]
	}
	if !slices.Equal(a.Data, dataWas) || !slices.Equal(x, xWas) {
		t.Fatal("an argument changed, or is shared")
	}
}

// P12.1: Trmv, in its order, of its triangle alone.
func TestTrmv(t *testing.T) {
	// Where 2^53 comes ahead of ones, each of these is lost.
	for i, l := range []struct {
		a           mat.Matrix
		upper, unit bool
		x, want     []uint64
	}{
		{square(1, 0x1p53, 1, 0, 1, 0, 0, 0, 1), true, false, nums(1, 1, 1), nums(0x1p53, 1, 1)},
		{square(1, 1, 0x1p53, 0, 1, 0, 0, 0, 1), true, false, nums(1, 1, 1), nums(0x1p53+2, 1, 1)},
		{square(1, 0, 0, 0, 1, 0, 1, 0x1p53, 1), false, false, nums(1, 1, 1), nums(1, 1, 0x1p53+2)},
		{square(1, 0, 0, 0, 1, 0, 0x1p53, 1, 1), false, false, nums(1, 1, 1), nums(1, 1, 0x1p53)},
		{square(7, 0, 0, 0, 7, 0, 1, 0x1p53, 7), false, true, nums(1, 1, 1), nums(1, 1, 0x1p53+2)},
		{square(-2), true, false, nums(3), nums(-6)},
		{square(9), false, true, []uint64{word.Minus0}, []uint64{word.Minus0}},
		{square(9), true, true, []uint64{signals}, []uint64{signals}}, // the number itself: nothing is reckoned
		{mat.Matrix{Stride: 5}, true, false, nil, nil},
	} {
		if got, e := Trmv(nil, l.a, l.upper, l.unit, l.x); e != api.OK || !slices.Equal(got, l.want) {
			t.Errorf("%d: Trmv %x %d, want %x", i, got, e, l.want)
		}
	}
	r := rand.New(rand.NewSource(121))
	for round := range 2000 {
		n, how := r.Intn(6), bools()[round%4]
		a := onlyTriangle(spread(n, n, n+r.Intn(3), anyList(r, n*n)), how[0], how[1])
		holdsToTheWords(t, Trmv, trmvByTheWords, a, how, anyList(r, n))
	}
}

// P12.1: Trsv, in its order, of its triangle alone.
func TestTrsv(t *testing.T) {
	for i, l := range []struct {
		a           mat.Matrix
		upper, unit bool
		b, want     []uint64
	}{
		{square(2, 1, 0, 4), true, false, nums(4, 8), nums(1, 2)}, // the document's example
		{square(2, 1, 0, 4), false, false, nums(4, 8), nums(2, 2)},
		{square(0, 3, 2, 0), false, true, nums(4, 9), nums(4, 1)},
		{square(0, 3, 2, 0), true, true, nums(4, 9), nums(-23, 9)},
		// The first product is taken away first: where that one is great, what is left of b is lost.
		{square(1, 0x1p60, -0x1p60, 0, 1, 0, 0, 0, 1), true, false, nums(1, 1, 1), nums(0, 1, 1)},
		{square(1, 0, 0, 0, 1, 0, 0x1p60, -0x1p60, 1), false, false, nums(1, 1, 1), nums(1, 1, 0)},
		{square(1, -0x1p53, -1, 0, 1, 0, 0, 0, 1), true, false, nums(1, 1, 1), nums(0x1p53, 1, 1)},
		{square(1, -1, -0x1p53, 0, 1, 0, 0, 0, 1), true, false, nums(1, 1, 1), nums(0x1p53+2, 1, 1)},
		{square(-2), false, false, []uint64{0}, []uint64{word.Minus0}},
		{square(0), false, true, []uint64{signals}, []uint64{signals}},
		{mat.Matrix{Stride: 5}, false, false, nil, nil},
	} {
		if got, e := Trsv(nil, l.a, l.upper, l.unit, l.b); e != api.OK || !slices.Equal(got, l.want) {
			t.Errorf("%d: Trsv %x %d, want %x", i, got, e, l.want)
		}
	}
	r := rand.New(rand.NewSource(122))
	for round := range 2000 {
		n, how := r.Intn(6), bools()[round%4]
		a := onlyTriangle(spread(n, n, n+r.Intn(3), anyList(r, n*n)), how[0], how[1])
		for i := range n {
			if word.Abs(a.At(i, i)) == 0 {
				a.Set(i, i, word.Least)
			}
		}
		holdsToTheWords(t, Trsv, trsvByTheWords, a, how, anyList(r, n))
	}
}

// P12.1: a zero of either sign on the diagonal, wherever, unless it counts as ones; nothing is reckoned then.
func TestTrsvSing(t *testing.T) {
	c := &soft.Calc{}
	for at := range 3 {
		for _, zero := range []uint64{0, word.Minus0} {
			a := square(3, 0.1, 0.1, 0.1, 3, 0.1, 0.1, 0.1, 3)
			a.Set(at, at, zero)
			for _, upper := range []bool{false, true} {
				if x, e := Trsv(c, a, upper, false, nums(0.1, 0.1, 0.1)); e != api.ErrSing || len(x) != 0 {
					t.Errorf("Trsv of a zero at %d: %x %d", at, x, e)
				}
				if x, e := Trsv(nil, a, upper, true, nums(1, 1, 1)); e != api.OK || len(x) != 3 {
					t.Errorf("Trsv of ones: %x %d", x, e)
				}
				if x, e := Trmv(nil, a, upper, false, nums(1, 1, 1)); e != api.OK || len(x) != 3 {
					t.Errorf("Trmv: %x %d", x, e)
				}
			}
		}
	}
	if x, e := Trsv(nil, square(1, 0, 0, 1), true, false, nums(2, 3)); e != api.OK || !slices.Equal(x, nums(2, 3)) {
		t.Errorf("zeros beside the diagonal: %x %d", x, e)
	}
	if c.F != 0 {
		t.Error("flags of what was not reckoned", c.F)
	}
}

// P12.1: matrices that aren't right, or not as the list; ahead of every other error; the Calc is left alone.
func TestShape(t *testing.T) {
	loud := slices.Repeat([]uint64{signals}, 9)
	type pair struct {
		a mat.Matrix
		b []uint64
	}
	pairs := []pair{
		{spread(2, 3, 3, loud), loud[:2]}, {spread(2, 3, 3, loud), loud[:3]}, {spread(3, 2, 2, loud), loud[:2]}, {spread(3, 2, 2, loud), loud[:3]},
		{spread(2, 2, 2, loud), loud[:1]}, {spread(2, 2, 2, loud), loud[:3]}, {spread(2, 2, 2, loud), nil}, {mat.Matrix{}, loud[:1]},
		{mat.New(2, 2), loud[:3]}, {mat.New(3, 3), loud[:2]}, {mat.Matrix{Rows: 2}, nil}, {mat.Matrix{Cols: 2, Stride: 2}, nil},
	}
	for _, w := range wrong() {
		pairs = append(pairs, pair{w, loud[:3]}, pair{w, nil})
	}
	c := &soft.Calc{}
	for i, l := range pairs {
		for _, how := range bools() {
			if x, e := Trmv(c, l.a, how[0], how[1], l.b); e != api.ErrShape || len(x) != 0 {
				t.Errorf("%d: Trmv %x %d", i, x, e)
			}
			if x, e := Trsv(c, l.a, how[0], how[1], l.b); e != api.ErrShape || len(x) != 0 {
				t.Errorf("%d: Trsv %x %d", i, x, e)
			}
		}
		for _, least := range []uint64{word.One, 0} {
			if x, told, e := Pivot(c, l.a, l.b, least); e != api.ErrShape || told || len(x) != 0 {
				t.Errorf("%d: Pivot %x %t %d", i, x, told, e)
			}
		}
	}
	if c.F != 0 {
		t.Error("flags of what was not reckoned", c.F)
	}
}

func rat(b uint64) *big.Rat { return new(big.Rat).SetFloat64(word.Float(b)) }

// misses is by how much a row's sum differs from b, and the sum of its products' magnitudes.
func misses(row, x []*big.Rat, b *big.Rat) (*big.Rat, *big.Rat) {
	sum, sizes := new(big.Rat), new(big.Rat)
	for k := range row {
		product := new(big.Rat).Mul(row[k], x[k])
		sum.Add(sum, product)
		sizes.Add(sizes, product.Abs(product))
	}
	return sum.Abs(sum.Sub(sum, b)), sizes
}

func rats(list []uint64) []*big.Rat {
	var out []*big.Rat
	for _, b := range list {
		out = append(out, rat(b))
	}
	return out
}

// triangleRow is a row of a triangle as exact numbers, with zeros elsewhere.
func triangleRow(a mat.Matrix, upper, unit bool, i int) []*big.Rat {
	var out []*big.Rat
	for k := range a.Cols {
		switch {
		case i == k && unit:
			out = append(out, big.NewRat(1, 1))
		case i == k || isOf(upper, i, k):
			out = append(out, rat(a.At(i, k)))
		default:
			out = append(out, new(big.Rat))
		}
	}
	return out
}

// P12.2: how far Trsv's answer may be from one.
func TestTrsvBound(t *testing.T) {
	r := rand.New(rand.NewSource(123))
	held := 0
	for round := range 400 {
		n, how := 1+r.Intn(12), bools()[round%4]
		a := spread(n, n, n, plain(r, n*n, []int{0, 3, 30}[round%3]))
		b := plain(r, n, 5)
		c := &soft.Calc{}
		x, e := Trsv(c, a, how[0], how[1], b)
		if e != api.OK {
			t.Fatal(e)
		}
		if c.F&^api.Inexact != 0 {
			continue
		}
		held++
		for i := range b {
			miss, sizes := misses(triangleRow(a, how[0], how[1], i), rats(x), rat(b[i]))
			bound := sizes.Mul(sizes, new(big.Rat).SetFloat64(float64(2*(n+1))*0x1p-53))
			if miss.Cmp(bound) > 0 {
				t.Fatalf("Trsv(%v, %v, %x) = %x misses row %d", a, how, b, x, i)
			}
		}
	}
	if held < 350 {
		t.Error("few were held against the bound:", held)
	}
}
