package plane

import (
	"math"
	"math/rand"
	"testing"

	"gimbal/api"
	"gimbal/word"
)

// holdCdiv holds Cdiv against its promise, of a b that isn't 0.
func holdCdiv(t *testing.T, a, b Complex) (Complex, api.Flags) {
	t.Helper()
	q, f, e := Cdiv(a, b)
	if e != api.OK {
		t.Fatalf("Cdiv(%x, %x): %d", a, b, e)
	}
	re, im := word.Abs(q.Re), word.Abs(q.Im)
	isOver := re == word.PosInf || im == word.PosInf
	if re > word.PosInf || im > word.PosInf || isOver != (f&api.Over != 0) || f&api.Under != 0 && min(re, im) > word.Small {
		t.Fatalf("Cdiv(%x, %x) = %x, flags %d", a, b, q, f)
	}
	if !isOver && min(re, im) > word.Small && f != 0 {
		t.Fatalf("Cdiv(%x, %x) = %x, flags %d of a Scaling by which nothing is lost", a, b, q, f)
	}
	if f&(api.Over|api.Under) == 0 {
		x, y, u, v := num(q.Re), num(q.Im), num(b.Re), num(b.Im)
		reMiss := x.Mul(u).Sub(y.Mul(v)).Sub(num(a.Re))
		imMiss := x.Mul(v).Add(y.Mul(u)).Sub(num(a.Im))
		if !isWithin(square(reMiss).Add(square(imMiss)), 64, square(num(a.Re)).Add(square(num(a.Im)))) {
			t.Fatalf("Cdiv(%x, %x) = %x misses", a, b, q)
		}
	}
	if again, g, _ := Cdiv(a, b); again != q || g != f {
		t.Fatalf("Cdiv(%x, %x) isn't always the same", a, b)
	}
	return q, f
}

// P14.3: the document's example, and quotients that are known.
func TestCdiv(t *testing.T) {
	for i, l := range [][3]complex128{
		{1, 1i, -1i}, {1i, 1i, 1}, {3 + 4i, 1 - 2i, -1 + 2i}, {-6, 4, -1.5}, {2 - 8i, -2i, 4 + 1i}, {0x1p900 + 0x1p900i, 0x1p900, 1 + 1i},
		{0x1p-900i, 0x1p-900 + 0x1p-900i, 0.5 + 0.5i}, {0x1p1000, 0x1p-20i, -0x1p1020i},
	} {
		q, f := holdCdiv(t, complexOf(l[0]), complexOf(l[1]))
		re, im := word.Float(q.Re)-real(l[2]), word.Float(q.Im)-imag(l[2])
		if size := math.Hypot(real(l[2]), imag(l[2])); math.Hypot(re, im) > 1e-14*size || f&(api.Over|api.Under) != 0 {
			t.Errorf("%d: Cdiv %g %g, flags %d; want %g", i, word.Float(q.Re), word.Float(q.Im), f, l[2])
		}
	}
}

func complexOf(z complex128) Complex { return Complex{Re: word.Of(real(z)), Im: word.Of(imag(z))} }

// P14.3: numbers of all sizes; parts that cancel, and parts that are far apart.
func TestCdivBound(t *testing.T) {
	r := rand.New(rand.NewSource(144))
	held := 0
	for round := range 6000 {
		pick := func() Complex {
			about, most := abouts()[r.Intn(len(abouts()))], []int{0, 3, 60, 600, 2100}[r.Intn(5)]
			return Complex{Re: plain(r, about, most), Im: plain(r, about, most)}
		}
		a, b := pick(), pick()
		if round%3 == 0 { // nearly a multiple of b, or of i b
			a = Complex{Re: word.Next(b.Im), Im: word.Flip(b.Re)}
			if round%2 == 0 {
				a = Complex{Re: b.Re, Im: word.Prev(b.Im)}
			}
		}
		if word.Abs(b.Re|b.Im) == 0 || !areFinite(a.Re, a.Im) {
			continue
		}
		if _, f := holdCdiv(t, a, b); f&(api.Over|api.Under) == 0 {
			held++
		}
	}
	if held < 2500 {
		t.Error("few were held against the bound:", held)
	}
	finite := edges()[:15]
	for i := range 15 * 15 * 15 * 15 {
		a := Complex{Re: finite[i%15], Im: finite[i/15%15]}
		b := Complex{Re: finite[i/225%15], Im: finite[i/3375]}
		if word.Abs(b.Re|b.Im) != 0 {
			holdCdiv(t, a, b)
		}
	}
}

// P14.3: a part that is beyond all, or can't be told beneath, by the last Scaling; either part will do.
func TestCdivFlags(t *testing.T) {
	third := Complex{Re: word.Of(3)}
	least := uint64(word.Least)
	for i, l := range []struct {
		a, b Complex
		want api.Flags
	}{
		{Complex{Re: word.Most}, complexOf(0.5), api.Over}, {Complex{Im: word.Most}, complexOf(0.5), api.Over}, {Complex{Re: word.Most}, complexOf(-0.5i), api.Over},
		{Complex{Re: word.One, Im: word.Most}, complexOf(0.25), api.Over}, {Complex{Re: word.Most, Im: word.One}, complexOf(0.25), api.Over},
		{Complex{Re: word.One}, Complex{Im: least}, api.Over}, {Complex{Re: word.Flip(least), Im: least}, third, api.Under},
		{Complex{Re: least}, third, api.Under}, {Complex{Im: least}, third, api.Under}, {Complex{Im: word.Flip(least)}, third, api.Under},
		{Complex{Re: least}, Complex{Re: word.Most}, api.Under}, {Complex{Im: least}, Complex{Re: word.Most, Im: word.Most}, api.Under},
		{Complex{Re: word.Most, Im: word.Most}, Complex{Re: word.Most, Im: word.Most}, 0}, {Complex{Re: least}, Complex{Re: least, Im: least}, 0},
		{complexOf(1 + 2i), complexOf(3 - 0.1i), 0}, {complexOf(0x1p1000 + 0x1p1000i), complexOf(0x1p-20), 0},
	} {
		if q, f := holdCdiv(t, l.a, l.b); f&(api.Over|api.Under) != l.want {
			t.Errorf("%d: Cdiv(%x, %x) = %x, flags %d; want %d", i, l.a, l.b, q, f, l.want)
		}
	}
}

// P14.3: what isn't finite, wherever, ahead of a b that is 0.
func TestCdivErrors(t *testing.T) {
	check := func(a, b Complex, want api.Errno) {
		t.Helper()
		if q, f, e := Cdiv(a, b); q != (Complex{}) || f != 0 || e != want {
			t.Errorf("Cdiv(%x, %x) = %x, flags %d, %d; want %d", a, b, q, f, e, want)
		}
	}
	for _, b := range edges() {
		if word.Finite(b) {
			check(Complex{Re: b, Im: word.One}, Complex{Re: word.Minus0}, api.ErrSing)
			check(Complex{Im: b}, Complex{}, api.ErrSing)
			continue
		}
		for _, other := range []uint64{0, word.Minus0, word.One, b} {
			some := Complex{Re: other, Im: other}
			check(Complex{Re: b, Im: other}, some, api.ErrPlain)
			check(Complex{Re: other, Im: b}, some, api.ErrPlain)
			check(some, Complex{Re: b, Im: other}, api.ErrPlain)
			check(some, Complex{Re: other, Im: b}, api.ErrPlain)
		}
	}
	check(complexOf(1), Complex{Re: word.Minus0, Im: word.Minus0}, api.ErrSing)
	check(complexOf(1), Complex{Im: word.Minus0}, api.ErrSing)
}

// P14.3: zeros of all signs by what isn't 0 are plus zeros.
func TestCdivZeros(t *testing.T) {
	zeros := []uint64{0, word.Minus0}
	for _, re := range zeros {
		for _, im := range zeros {
			for _, b := range []Complex{complexOf(1), complexOf(-1), complexOf(-2i), complexOf(-3 + 1i), {Re: word.Minus0, Im: word.Most}, {Re: word.Flip(word.Least)}} {
				if q, f, e := Cdiv(Complex{Re: re, Im: im}, b); q != (Complex{}) || f != 0 || e != api.OK {
					t.Errorf("Cdiv of zeros by %x: %x, flags %d, %d", b, q, f, e)
				}
			}
		}
	}
}
