package house

import (
	"math"
	"math/rand"
	"slices"
	"testing"

	"gimbal/api"
	"gimbal/dyad"
	"gimbal/mat"
	"gimbal/soft"
	"gimbal/word"
)

// spread is a matrix of some patterns, row by row, with other ones between its rows that no call may look at.
func spread(rows, cols, stride int, patterns []uint64) mat.Matrix {
	m := mat.Matrix{Rows: rows, Cols: cols, Stride: stride}
	if rows == 0 || cols == 0 {
		return m
	}
	m.Data = slices.Repeat([]uint64{signals}, (rows-1)*stride+cols)
	for i := range rows {
		copy(m.Data[i*stride:], patterns[i*cols:(i+1)*cols])
	}
	return m
}

// wrong has matrices that aren't right.
func wrong() []mat.Matrix {
	few := make([]uint64, 8)
	return []mat.Matrix{
		{Rows: -1}, {Cols: -1}, {Rows: api.MaxN + 1}, {Stride: 1<<40 + 1}, {Rows: 3, Cols: 3, Stride: 2, Data: few},
		{Rows: 3, Cols: 3, Stride: 3, Data: few}, {Rows: 3, Cols: 3, Stride: -3, Data: few}, {Rows: 3, Cols: 3},
		{Rows: 3, Cols: 3, Stride: math.MaxInt, Data: few}, {Rows: math.MaxInt, Cols: math.MinInt, Stride: 3, Data: few},
	}
}

// leftByTheWords is Left step by step.
func leftByTheWords(c *soft.Calc, r Ref, m mat.Matrix, from int) mat.Matrix {
	out := m.Clone()
	if word.Abs(r.Tau) == 0 {
		return out
	}
	for k := range m.Cols {
		sum := uint64(0)
		for i, v := range r.V {
			sum = c.Add(sum, c.Mul(v, m.At(from+i, k)))
		}
		sum = c.Mul(r.Tau, sum)
		for i, v := range r.V {
			out.Set(from+i, k, c.Sub(m.At(from+i, k), c.Mul(v, sum)))
		}
	}
	return out
}

// rightByTheWords is Left of the matrix Turned.
func rightByTheWords(c *soft.Calc, r Ref, m mat.Matrix, from int) mat.Matrix {
	return leftByTheWords(c, r, m.Turn(), from).Turn()
}

// side is one of the two calls, and the words that say what it does.
type side struct {
	name  string
	call  func(Ref, *soft.Calc, mat.Matrix, int) (mat.Matrix, api.Errno)
	words func(*soft.Calc, Ref, mat.Matrix, int) mat.Matrix
	long  func(mat.Matrix) int
}

func sides() []side {
	return []side{
		{"Left", Ref.Left, leftByTheWords, func(m mat.Matrix) int { return m.Rows }},
		{"Right", Ref.Right, rightByTheWords, func(m mat.Matrix) int { return m.Cols }},
	}
}

// holdSide holds one of the two against its steps: numbers, flags, and what it leaves alone.
func holdSide(t *testing.T, s side, r Ref, m mat.Matrix, from int) {
	t.Helper()
	dataWas, vWas := slices.Clone(m.Data), slices.Clone(r.V)
	want, c := &soft.Calc{F: api.ByZero}, &soft.Calc{F: api.ByZero}
	all := s.words(want, r, m, from)
	got, e := s.call(r, c, m, from)
	if e != api.OK || got.Check() != api.OK || !got.Same(all) || c.F != want.F {
		t.Fatalf("%s(%x, %v, %d) = %v, %d, flags %d; want %v, flags %d", s.name, r, m, from, got, e, c.F, all, want.F)
	}
	if again, _ := s.call(r, nil, m, from); !again.Same(got) {
		t.Fatalf("another %s without a Calc", s.name)
	}
	for i := range got.Data {
		got.Data[i] = ^got.Data[i]
	}
	if !slices.Equal(m.Data, dataWas) || !slices.Equal(r.V, vWas) {
		t.Fatalf("%s: an argument changed, or is shared", s.name)
	}
}

// P13.2: the document's example; what stands beside the rows, or columns, stays as it is.
func TestReflect(t *testing.T) {
	r := Ref{V: nums(1, 0.5), Tau: word.Of(1.6)}
	m := spread(4, 2, 5, nums(9, -9, 3, 6, 4, 8, 7, -7))
	got, e := r.Left(nil, m, 1)
	for i, want := range []float64{9, -9, -5, -10, 0, 0, 7, -7} {
		if x := word.Float(got.At(i/2, i%2)); e != api.OK || math.Abs(x-want) > 1e-14 {
			t.Errorf("Left %d: %g, want %g", i, x, want)
		}
	}
	if turned, e := r.Right(nil, m.Turn(), 1); e != api.OK || !turned.Turn().Same(got) {
		t.Errorf("Right %v %d", turned, e)
	}
	// The sum's order: 2^53 and two ones; two ones and 2^53.
	r = Ref{V: nums(1, 1, 1), Tau: word.One}
	if got, _ := r.Left(nil, spread(3, 2, 2, nums(0x1p53, 1, 1, 1, 1, 0x1p53)), 0); !slices.Equal(got.Data, nums(0, -0x1p53-2+1, -0x1p53+1, -0x1p53-2+1, -0x1p53+1, -2)) {
		t.Errorf("Left in order %g", floats(got))
	}
	// Tau times the sum, and not times a number of V: 2^600 (2^600 2^-600) isn't infinite.
	r = Ref{V: nums(0x1p600), Tau: word.Of(0x1p600)}
	if got, _ := r.Left(nil, spread(1, 1, 1, nums(0x1p-1000)), 0); word.Float(got.At(0, 0)) != -0x1p800 {
		t.Errorf("Left by parts %g", floats(got))
	}
}

func floats(m mat.Matrix) []float64 {
	var out []float64
	for i := range m.Rows {
		for k := range m.Cols {
			out = append(out, word.Float(m.At(i, k)))
		}
	}
	return out
}

// P13.2: Left and Right step by step, of all patterns, at all places.
func TestReflectSteps(t *testing.T) {
	r := rand.New(rand.NewSource(133))
	for range 3000 {
		rows, cols := r.Intn(6), r.Intn(6)
		m := spread(rows, cols, cols+r.Intn(3), anyList(r, rows*cols))
		for _, s := range sides() {
			from := r.Intn(s.long(m) + 1)
			ref := Ref{V: anyList(r, r.Intn(s.long(m)-from+1)), Tau: anyList(r, 1)[0]}
			holdSide(t, s, ref, m, from)
			if len(ref.V) > 0 {
				ref.V[0], ref.Tau = word.One, word.Of(1+r.Float64())
				holdSide(t, s, ref, m, from)
			}
		}
	}
}

// P13.2: with a Tau that is a zero the matrix itself, in new memory, whatever stands there; with no numbers Tau times zero.
func TestReflectNone(t *testing.T) {
	loud := spread(3, 3, 4, slices.Repeat([]uint64{signals, word.PosInf, word.Most}, 3))
	for _, s := range sides() {
		for _, zero := range []uint64{0, word.Minus0} {
			for _, v := range [][]uint64{nil, {word.One}, {word.Quiet, signals}, {word.Most, word.Most, word.NegInf}} {
				c := &soft.Calc{}
				got, e := s.call(Ref{V: v, Tau: zero}, c, loud, 0)
				if e != api.OK || !got.Same(loud) || c.F != 0 {
					t.Errorf("%s of %x: %v, %d, flags %d", s.name, v, got, e, c.F)
				}
				holdSide(t, s, Ref{V: v, Tau: zero}, loud, 0)
			}
		}
		c := &soft.Calc{}
		if got, e := s.call(Ref{Tau: word.PosInf}, c, loud, 3); e != api.OK || !got.Same(loud) || c.F != api.Invalid {
			t.Errorf("%s of no numbers: %v, %d, flags %d", s.name, got, e, c.F)
		}
		for _, m := range []mat.Matrix{{}, {Rows: 3}, {Cols: 3, Stride: 3}, {Rows: 2, Stride: 9}} {
			for from := range s.long(m) + 1 {
				holdSide(t, s, Ref{V: anyList(rand.New(rand.NewSource(1)), s.long(m)-from), Tau: word.PosInf}, m, from)
			}
		}
	}
}

// P13.2: matrices that aren't right, places that there aren't, too few rows or columns; the Calc is left alone.
func TestReflectShape(t *testing.T) {
	c := &soft.Calc{}
	check := func(s side, v []uint64, m mat.Matrix, from int) {
		t.Helper()
		for _, tau := range []uint64{word.Of(1.6), 0, signals} {
			if got, e := s.call(Ref{V: v, Tau: tau}, c, m, from); e != api.ErrShape || got.Rows != 0 || got.Cols != 0 || got.Stride != 0 || len(got.Data) != 0 {
				t.Errorf("%s of %d numbers, from %d on, of %v: %v, %d", s.name, len(v), from, m, got, e)
			}
		}
	}
	loud := slices.Repeat([]uint64{signals}, 30)
	for _, s := range sides() {
		for _, m := range []mat.Matrix{spread(3, 5, 5, loud), spread(5, 3, 3, loud), spread(3, 3, 4, loud), {}, {Rows: 3}, {Cols: 3, Stride: 3}} {
			n := s.long(m)
			for _, from := range []int{-1, n + 1, math.MinInt, math.MaxInt, -n - 1, 2*n + 1} {
				check(s, nil, m, from)
				check(s, loud[:1], m, from)
				check(s, loud[:n], m, from)
			}
			for from := range n + 1 {
				check(s, loud[:n-from+1], m, from)
				if _, e := s.call(Ref{V: nums(1, 0, 0, 0, 0)[:n-from]}, nil, m, from); e != api.OK {
					t.Errorf("%s of %d numbers, from %d on: %d", s.name, n-from, from, e)
				}
			}
		}
		for _, m := range wrong() {
			for _, from := range []int{0, 1, -1} {
				check(s, nil, m, from)
				check(s, loud[:1], m, from)
			}
		}
	}
	if c.F != 0 {
		t.Error("flags of what was not reckoned", c.F)
	}
}

// P13.3: how far each column, or row, may be from the exact reflection.
func TestReflectBound(t *testing.T) {
	r := rand.New(rand.NewSource(134))
	held := 0
	for round := range 400 {
		n := 1 + r.Intn(8)
		most := []int{0, 3, 40, 200}[round%4]
		list := plain(r, n, 0, most)
		ref, _, _, _ := Gen(list)
		if round%3 == 0 { // any numbers within the bounds, also such as are no reflection
			for i := range ref.V {
				ref.V[i] = word.Of(2*r.Float64() - 1)
			}
			ref.Tau = word.Of(4*r.Float64() - 2)
		}
		rows, from := n+r.Intn(3), 0
		m := spread(rows, 3, 3, plain(r, rows*3, 0, most))
		from = r.Intn(rows - n + 1)
		for i, b := range list { // a column of which nearly nothing is left but its first number
			m.Set(from+i, 1, b)
		}
		if held1 := holdBound(t, ref, m, from); held1 {
			held++
		}
	}
	if held < 350 {
		t.Error("few were held against the bound:", held)
	}
}

// holdBound holds both sides against the bound; false: a flag has come.
func holdBound(t *testing.T, ref Ref, m mat.Matrix, from int) bool {
	t.Helper()
	c := &soft.Calc{}
	left, _ := ref.Left(c, m, from)
	right, _ := ref.Right(c, m.Turn(), from)
	if c.F&(api.Over|api.Under|api.Invalid) != 0 {
		return false
	}
	n := len(ref.V)
	bound := parts(64 * (n + 8) * (n + 8))
	bound = bound.Mul(bound)
	for k := range m.Cols {
		was := column(m, k)
		for _, now := range [][]dyad.Num{column(left, k), column(right.Turn(), k)} {
			want := slices.Concat(was[:from], reflected(ref, was[from:from+n]), was[from+n:])
			for i := range want {
				want[i] = want[i].Sub(now[i])
			}
			if squares(want).Cmp(bound.Mul(squares(was))) > 0 {
				t.Fatalf("%x of %v, from %d on: column %d is too far off", ref, m, from, k)
			}
		}
	}
	return true
}

func column(m mat.Matrix, k int) []dyad.Num {
	var out []dyad.Num
	for i := range m.Rows {
		out = append(out, num(m.At(i, k)))
	}
	return out
}
