package house

import (
	"math"
	"math/rand"
	"slices"
	"testing"

	"gimbal/api"
	"gimbal/mat"
	"gimbal/soft"
	"gimbal/word"
)

func isZeroMatrix(m mat.Matrix) bool {
	return m.Rows == 0 && m.Cols == 0 && m.Stride == 0 && len(m.Data) == 0
}

// tByTheWords is Block's T step by step.
func tByTheWords(c *soft.Calc, all []Ref) mat.Matrix {
	t := mat.New(len(all), len(all))
	for k, r := range all {
		t.Set(k, k, r.Tau)
		var dots []uint64
		for _, ahead := range all[:k] {
			sum := uint64(0)
			for i := range r.V {
				sum = c.Add(sum, c.Mul(ahead.V[i], r.V[i]))
			}
			dots = append(dots, sum)
		}
		for i := range k {
			sum := uint64(0)
			for j := i; j < k; j++ {
				sum = c.Add(sum, c.Mul(t.At(i, j), dots[j]))
			}
			t.Set(i, k, word.Flip(c.Mul(r.Tau, sum)))
		}
	}
	return t
}

// isT tells whether a matrix is T: zeros beneath the diagonal may have any sign, and so may Nans.
func isT(got, want mat.Matrix) bool {
	if got.Check() != api.OK || got.Rows != want.Rows || got.Cols != want.Cols {
		return false
	}
	for i := range want.Rows {
		for k := range want.Cols {
			g, w := got.At(i, k), want.At(i, k)
			beneath := k < i && word.Abs(g) == 0
			none := k > i && word.Kind(g) == word.Nan && word.Kind(w) == word.Nan
			if g != w && !beneath && !none {
				return false
			}
		}
	}
	return true
}

// isV tells whether a matrix has these lists as its columns.
func isV(got mat.Matrix, all []Ref) bool {
	if got.Check() != api.OK || got.Rows != len(all[0].V) || got.Cols != len(all) {
		return false
	}
	for k, r := range all {
		for i, b := range r.V {
			if got.At(i, k) != b {
				return false
			}
		}
	}
	return true
}

func anyRefs(r *rand.Rand, many, n int) []Ref {
	var all []Ref
	for range many {
		all = append(all, Ref{V: anyList(r, n), Tau: anyList(r, 1)[0]})
	}
	return all
}

// P13.4: V and T, step by step, with the flags of these steps.
func TestBlock(t *testing.T) {
	// Columns 1 2 and 1 -3, Taus 0.5 and 4: the Dot is -5, T has 4 0.5 5 above.
	all := []Ref{{V: nums(1, 2), Tau: word.Of(0.5)}, {V: nums(1, -3), Tau: word.Of(4)}}
	v, w, e := Block(nil, all)
	if e != api.OK || !slices.Equal(floats(v), []float64{1, 1, 2, -3}) || !slices.Equal(floats(w), []float64{0.5, 10, 0, 4}) {
		t.Errorf("Block %g %g %d", floats(v), floats(w), e)
	}
	r := rand.New(rand.NewSource(135))
	for round := range 2000 {
		all := anyRefs(r, 1+r.Intn(5), r.Intn(5))
		if round%2 == 0 {
			for i := range all {
				all[i] = Ref{V: plain(r, len(all[0].V), 0, 30), Tau: plain(r, 1, 0, 30)[0]}
			}
		}
		want, c := &soft.Calc{F: api.ByZero}, &soft.Calc{F: api.ByZero}
		wantT := tByTheWords(want, all)
		v, w, e := Block(c, all)
		if e != api.OK || !isV(v, all) || !isT(w, wantT) || c.F != want.F {
			t.Fatalf("Block(%x) = %v, %v, %d, flags %d; want %v, flags %d", all, v, w, e, c.F, wantT, want.F)
		}
		again, wAgain, _ := Block(nil, all)
		for i := range v.Data {
			v.Data[i] = ^v.Data[i]
		}
		if !isV(again, all) || !wAgain.Same(w) {
			t.Fatal("another Block without a Calc, or lists share memory")
		}
	}
}

// times is a product of matrices of n rows and columns.
func times(a, b []float64, n int) []float64 {
	out := make([]float64, n*n)
	for i := range n {
		for j := range n {
			for k := range n {
				out[i*n+k] += a[i*n+j] * b[j*n+k]
			}
		}
	}
	return out
}

// less is I - V T V^T, of a matrix T of so many rows.
func less(v []float64, t []float64, n, many int) []float64 {
	out := floats(mat.One(n))
	for i := range n {
		for k := range n {
			for p := range many {
				for q := range many {
					out[i*n+k] -= v[i*many+p] * t[p*many+q] * v[k*many+q]
				}
			}
		}
	}
	return out
}

// P13.4: what V and T stand for is the product of the reflections, the first one leading.
func TestBlockProduct(t *testing.T) {
	r := rand.New(rand.NewSource(136))
	for range 200 {
		n, many := 1+r.Intn(7), 1+r.Intn(6)
		var all []Ref
		product := floats(mat.One(n))
		for range many {
			ref, _, _, _ := Gen(plain(r, n, 0, 2))
			all = append(all, ref)
			column := spread(n, 1, 1, ref.V)
			product = times(product, less(floats(column), []float64{word.Float(ref.Tau)}, n, 1), n)
		}
		v, w, e := Block(nil, all)
		for i, x := range less(floats(v), floats(w), n, many) {
			if e != api.OK || math.Abs(x-product[i]) > 1e-12 {
				t.Fatalf("Block(%x): %g at %d, want %g", all, x, i, product[i])
			}
		}
	}
}

// P13.4: no reflections, lists of several lengths, and more than a matrix can hold; the Calc is left alone.
func TestBlockShape(t *testing.T) {
	c := &soft.Calc{}
	loud := Ref{V: slices.Repeat([]uint64{signals}, 3), Tau: signals}
	short, long, none := Ref{V: loud.V[:2], Tau: signals}, Ref{V: append(nums(1), loud.V...)}, Ref{Tau: signals}
	for i, all := range [][]Ref{
		nil, {}, {loud, short}, {short, loud}, {loud, loud, long}, {loud, long, loud}, {long, loud, loud}, {none, loud}, {loud, none},
	} {
		if v, w, e := Block(c, all); e != api.ErrShape || !isZeroMatrix(v) || !isZeroMatrix(w) {
			t.Errorf("%d: Block %v %v %d", i, v, w, e)
		}
	}
	if c.F != 0 {
		t.Error("flags of what was not reckoned", c.F)
	}
	longest := make([]uint64, api.MaxN)
	longest[0] = word.One
	if v, w, e := Block(nil, []Ref{{V: longest, Tau: word.One}}); e != api.OK || v.Rows != api.MaxN || w.Rows != 1 {
		t.Error("Block of the longest list", e)
	}
	for i, all := range [][]Ref{{{V: append(longest, 0)}}, make([]Ref, api.MaxN+1)} {
		// No matrix can hold them; which error that is the document doesn't say.
		if v, w, e := Block(nil, all); e == api.OK || !isZeroMatrix(v) || !isZeroMatrix(w) {
			t.Errorf("%d: Block of more than a matrix has: %d rows, %d rows, %d", i, v.Rows, w.Rows, e)
		}
	}
}
