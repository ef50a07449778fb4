package wide

import (
	"math"
	"math/big"
	"math/rand"
	"testing"
)

const full = math.MaxUint64

// Numbers at the edges: one half alone, bits on both sides of the middle, all bits.
var edges = []Wide{
	{}, {0, 1}, {0, 2}, {0, 3}, {0, 1<<32 - 1}, {0, 1 << 32}, {0, 1 << 63}, {0, full - 1}, {0, full},
	{1, 0}, {1, 1}, {1, 3}, {1, full}, {2, 0}, {1 << 31, 0}, {1 << 62, 0}, {1 << 63, 0}, {1 << 63, 1},
	{1<<63 - 1, full}, {1 << 63, 1 << 63}, {full - 1, 0}, {full - 1, 1}, {full, 0}, {full, 1}, {full, full - 1}, {full, full},
}

func (a Wide) big() *big.Int {
	n := new(big.Int).SetUint64(a.Hi)
	return n.Lsh(n, 64).Or(n, new(big.Int).SetUint64(a.Lo))
}

var beyond = new(big.Int).Lsh(big.NewInt(1), 128)

// isModulo tells whether a is n modulo 2^128.
func isModulo(a Wide, n *big.Int) bool {
	return a.big().Cmp(new(big.Int).Mod(n, beyond)) == 0
}

// some is the edges, and numbers of all lengths.
func some(seed int64) []Wide {
	r := rand.New(rand.NewSource(seed))
	all := append([]Wide(nil), edges...)
	for range 150 {
		a := Wide{r.Uint64(), r.Uint64()}
		n := r.Intn(128)
		if n >= 64 {
			a = Wide{0, a.Lo >> (n - 64)}
		} else {
			a.Hi >>= n
		}
		all = append(all, a)
	}
	return all
}

// P2.1
func TestMul(t *testing.T) {
	for _, x := range []struct {
		a, b uint64
		want Wide
	}{
		{0, full, Wide{}}, {1, full, Wide{0, full}}, {1 << 63, 4, Wide{2, 0}}, {1 << 32, 1 << 32, Wide{1, 0}},
		{full, 2, Wide{1, full - 1}}, {full, full, Wide{full - 1, 1}},
	} {
		if w := Mul(x.a, x.b); w != x.want {
			t.Errorf("Mul(%d, %d) = %v, want %v", x.a, x.b, w, x.want)
		}
	}
	for _, a := range some(1) {
		for _, b := range [][2]uint64{{a.Hi, a.Lo}, {a.Lo, a.Lo}, {a.Hi, a.Hi}} {
			want := new(big.Int).Mul(Wide{0, b[0]}.big(), Wide{0, b[1]}.big())
			if Mul(b[0], b[1]).big().Cmp(want) != 0 {
				t.Errorf("Mul(%d, %d) = %v", b[0], b[1], Mul(b[0], b[1]))
			}
		}
	}
}

// P2.1
func TestAddSubAtTheEdges(t *testing.T) {
	for _, x := range []struct {
		a, b, sum   Wide
		over        bool
		diff        Wide
		beneathZero bool
	}{
		{Wide{}, Wide{}, Wide{}, false, Wide{}, false},
		{Wide{0, full}, Wide{0, 1}, Wide{1, 0}, false, Wide{0, full - 1}, false},
		{Wide{1, 0}, Wide{0, 1}, Wide{1, 1}, false, Wide{0, full}, false},
		{Wide{0, 1}, Wide{1, 0}, Wide{1, 1}, false, Wide{full, 1}, true},
		{Wide{5, 2}, Wide{5, 3}, Wide{10, 5}, false, Wide{full, full}, true},
		{Wide{full, full}, Wide{0, 1}, Wide{}, true, Wide{full, full - 1}, false},
		{Wide{full, 0}, Wide{1, 0}, Wide{}, true, Wide{full - 1, 0}, false},
		{Wide{full - 1, full}, Wide{1, 0}, Wide{full, full}, false, Wide{full - 2, full}, false},
		{Wide{full - 1, full}, Wide{1, 1}, Wide{}, true, Wide{full - 2, full - 1}, false},
		{Wide{full, full}, Wide{full, full}, Wide{full, full - 1}, true, Wide{}, false},
		{Wide{}, Wide{full, full}, Wide{full, full}, false, Wide{0, 1}, true},
	} {
		if s, over := x.a.Add(x.b); s != x.sum || over != x.over {
			t.Errorf("%v.Add(%v) = %v, %t", x.a, x.b, s, over)
		}
		if d, beneath := x.a.Sub(x.b); d != x.diff || beneath != x.beneathZero {
			t.Errorf("%v.Sub(%v) = %v, %t", x.a, x.b, d, beneath)
		}
	}
}

// P2.1
func TestAddSubCmpOfAll(t *testing.T) {
	all := some(2)
	for _, a := range all {
		for _, b := range all {
			x, y := a.big(), b.big()
			sum, diff := new(big.Int).Add(x, y), new(big.Int).Sub(x, y)
			if s, over := a.Add(b); !isModulo(s, sum) || over != (sum.Cmp(beyond) >= 0) {
				t.Errorf("%v.Add(%v) = %v, %t", a, b, s, over)
			}
			if d, beneath := a.Sub(b); !isModulo(d, diff) || beneath != (diff.Sign() < 0) {
				t.Errorf("%v.Sub(%v) = %v, %t", a, b, d, beneath)
			}
			if a.Cmp(b) != x.Cmp(y) {
				t.Errorf("%v.Cmp(%v) = %d", a, b, a.Cmp(b))
			}
		}
	}
}

// P2.1
func TestCmpLooksAtTheUpperHalfFirst(t *testing.T) {
	for _, x := range []struct {
		a, b Wide
		want int
	}{
		{Wide{1, 0}, Wide{0, full}, 1}, {Wide{0, full}, Wide{1, 0}, -1}, {Wide{3, 1}, Wide{3, 2}, -1},
		{Wide{3, 2}, Wide{3, 1}, 1}, {Wide{3, 2}, Wide{3, 2}, 0}, {Wide{2, 9}, Wide{3, 1}, -1}, {Wide{3, 1}, Wide{2, 9}, 1},
	} {
		if c := x.a.Cmp(x.b); c != x.want {
			t.Errorf("%v.Cmp(%v) = %d", x.a, x.b, c)
		}
	}
}

// P2.1
func TestZeroAndLen(t *testing.T) {
	for a, want := range map[Wide]int{
		{}: 0, {0, 1}: 1, {0, 3}: 2, {0, 1 << 63}: 64, {0, full}: 64, {1, 0}: 65, {1, full}: 65, {1 << 63, 0}: 128, {full, full}: 128,
	} {
		if a.Len() != want {
			t.Errorf("%v.Len() = %d, want %d", a, a.Len(), want)
		}
	}
	for _, a := range some(3) {
		if a.Len() != a.big().BitLen() {
			t.Errorf("%v.Len() = %d", a, a.Len())
		}
		if a.Zero() != (a.Hi == 0 && a.Lo == 0) {
			t.Errorf("%v.Zero() = %t", a, a.Zero())
		}
	}
}

// P2.2
func TestLeftRightByHand(t *testing.T) {
	a := Wide{1, 3}
	for n, want := range map[int]Wide{
		math.MinInt: a, -1: a, 0: a, 1: {2, 6}, 63: {1<<63 | 1, 1 << 63}, 64: {3, 0}, 65: {6, 0}, 126: {3 << 62, 0},
		127: {1 << 63, 0}, 128: {}, 129: {}, 192: {}, 256: {}, math.MaxInt: {},
	} {
		if w := a.Left(n); w != want {
			t.Errorf("%v.Left(%d) = %v, want %v", a, n, w, want)
		}
	}
	b := Wide{3 << 62, 0}
	for n, want := range map[int]Wide{
		math.MinInt: b, -1: b, 0: b, 1: {3 << 61, 0}, 62: {3, 0}, 63: {1, 1 << 63}, 64: {0, 3 << 62}, 65: {0, 3 << 61}, 126: {0, 3},
	} {
		if w, lost := b.Right(n); w != want || lost {
			t.Errorf("%v.Right(%d) = %v, %t, want %v", b, n, w, lost, want)
		}
	}
	for n, want := range map[int]Wide{127: {0, 1}, 128: {}, 129: {}, 192: {}, 256: {}, math.MaxInt: {}} {
		if w, lost := b.Right(n); w != want || !lost {
			t.Errorf("%v.Right(%d) = %v, %t, want %v, true", b, n, w, lost, want)
		}
	}
	if w, lost := (Wide{}).Right(math.MaxInt); !w.Zero() || lost {
		t.Error("of 0 nothing can fall out")
	}
}

// P2.2
func TestLeftRightOfAll(t *testing.T) {
	for _, a := range some(4) {
		for n := -2; n <= 260; n++ {
			by := uint(0)
			if n > 0 {
				by = uint(n)
			}
			if !isModulo(a.Left(n), new(big.Int).Lsh(a.big(), by)) {
				t.Errorf("%v.Left(%d) = %v", a, n, a.Left(n))
			}
			down := new(big.Int).Rsh(a.big(), by)
			w, lost := a.Right(n)
			if w.big().Cmp(down) != 0 || lost != (new(big.Int).Lsh(down, by).Cmp(a.big()) != 0) {
				t.Errorf("%v.Right(%d) = %v, %t", a, n, w, lost)
			}
		}
	}
}

// P2.2
func TestDivByHand(t *testing.T) {
	for _, x := range []struct {
		a       Wide
		b, q, r uint64
		ok      bool
	}{
		{Wide{}, 0, 0, 0, false}, {Wide{0, 7}, 0, 0, 0, false}, {Wide{7, 7}, 0, 0, 0, false}, {Wide{full, full}, 0, 0, 0, false},
		{Wide{7, 0}, 7, 0, 0, false}, {Wide{8, 0}, 7, 0, 0, false}, {Wide{1, 0}, 1, 0, 0, false}, {Wide{full, 0}, full, 0, 0, false},
		{Wide{}, 1, 0, 0, true}, {Wide{0, full}, 1, full, 0, true}, {Wide{0, 7}, 3, 2, 1, true}, {Wide{0, 2}, 3, 0, 2, true},
		{Wide{1, 3}, 2, 1<<63 | 1, 1, true}, {Wide{6, full}, 7, full, 6, true}, {Wide{full - 1, full}, full, full, full - 1, true},
	} {
		if q, r, ok := x.a.Div(x.b); q != x.q || r != x.r || ok != x.ok {
			t.Errorf("%v.Div(%d) = %d, %d, %t, want %d, %d, %t", x.a, x.b, q, r, ok, x.q, x.r, x.ok)
		}
	}
}

// P2.2
func TestDivOfAll(t *testing.T) {
	all := some(5)
	for _, a := range all {
		for _, by := range all {
			b := by.Lo
			q, r, ok := a.Div(b)
			if a.Hi >= b {
				if q != 0 || r != 0 || ok {
					t.Errorf("%v.Div(%d) = %d, %d, %t", a, b, q, r, ok)
				}
				continue
			}
			back, over := Mul(q, b).Add(Wide{0, r})
			if !ok || r >= b || over || back != a {
				t.Errorf("%v.Div(%d) = %d, %d, %t", a, b, q, r, ok)
			}
		}
	}
}

// P2.2
func TestSqrtByHand(t *testing.T) {
	for _, x := range []struct {
		a     Wide
		root  uint64
		exact bool
	}{
		{Wide{}, 0, true}, {Wide{0, 1}, 1, true}, {Wide{0, 2}, 1, false}, {Wide{0, 3}, 1, false}, {Wide{0, 4}, 2, true},
		{Wide{0, full}, 1<<32 - 1, false}, {Wide{1, 0}, 1 << 32, true}, {Wide{1, 1}, 1 << 32, false}, {Wide{2, 0}, 6074000999, false},
		{Wide{1 << 62, 0}, 1 << 63, true}, {Wide{1<<62 | 1, 0}, 1 << 63, false}, {Wide{full - 1, 0}, full - 1, false}, {Wide{full - 1, 1}, full, true},
		{Wide{full - 1, 2}, full, false}, {Wide{full, full}, full, false},
	} {
		if r, exact := x.a.Sqrt(); r != x.root || exact != x.exact {
			t.Errorf("%v.Sqrt() = %d, %t, want %d, %t", x.a, r, exact, x.root, x.exact)
		}
	}
}

// P2.2: squares, and what stands right beside them.
func TestSqrtAroundSquares(t *testing.T) {
	for _, a := range some(6) {
		root := a.Lo
		if root < 2 {
			continue
		}
		square := Mul(root, root)
		less, _ := square.Sub(Wide{0, 1})
		more, _ := square.Add(Wide{0, 1})
		for _, x := range []struct {
			a     Wide
			root  uint64
			exact bool
		}{{less, root - 1, false}, {square, root, true}, {more, root, false}} {
			if r, exact := x.a.Sqrt(); r != x.root || exact != x.exact {
				t.Errorf("%v.Sqrt() = %d, %t, want %d, %t", x.a, r, exact, x.root, x.exact)
			}
		}
		want := new(big.Int).Sqrt(a.big())
		if r, exact := a.Sqrt(); (Wide{0, r}).big().Cmp(want) != 0 || exact != (new(big.Int).Mul(want, want).Cmp(a.big()) == 0) {
			t.Errorf("%v.Sqrt() = %d, %t", a, r, exact)
		}
	}
}
