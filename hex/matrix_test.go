package hex

import (
	"math"
	"math/rand"
	"slices"
	"strconv"
	"strings"
	"testing"

	"gimbal/api"
	"gimbal/word"
)

// P8.2: texts of matrices by hand, there and back.
func TestMatrixByHand(t *testing.T) {
	for _, x := range []struct {
		rows, cols int
		all        []uint64
		text       string
	}{
		{0, 0, nil, "0 0\n"},
		{0, 3, nil, "0 3\n"},
		{0, 4096, nil, "0 4096\n"},
		{1, 0, nil, "1 0\n\n"},
		{3, 0, nil, "3 0\n\n\n\n"},
		{4096, 0, nil, "4096 0\n" + strings.Repeat("\n", 4096)},
		{1, 1, []uint64{word.One}, "1 1\n1p0\n"},
		{1, 2, []uint64{word.One, word.Of(-0.75)}, "1 2\n1p0 -3p-2\n"},
		{2, 1, []uint64{word.One, word.Of(-0.75)}, "2 1\n1p0\n-3p-2\n"},
		{2, 3, []uint64{word.One, 0, word.Minus0, word.NegInf, word.Quiet, word.Least}, "2 3\n1p0 0 -0\n-inf nan 1p-1074\n"},
		{3, 2, []uint64{word.One, 0, word.Minus0, word.NegInf, word.Quiet, word.Most}, "3 2\n1p0 0\n-0 -inf\nnan 1fffffffffffffp971\n"},
		{1, 4096, make([]uint64, 4096), "1 4096\n" + strings.Repeat("0 ", 4095) + "0\n"},
		{4096, 1, make([]uint64, 4096), "4096 1\n" + strings.Repeat("0\n", 4096)},
	} {
		at := func(i, k int) uint64 { return x.all[i*x.cols+k] }
		if s := Rows(x.rows, x.cols, at); s != x.text {
			t.Errorf("Rows(%d, %d) = %q, want %q", x.rows, x.cols, s, x.text)
		}
		if rows, cols, all, e := Matrix(x.text); rows != x.rows || cols != x.cols || !slices.Equal(all, x.all) || e != api.OK {
			t.Errorf("Matrix(%q) = %d, %d, %x, %d", x.text, rows, cols, all, e)
		}
	}
}

// P8.2: each place is asked for once, row by row.
func TestRowsAsks(t *testing.T) {
	var asked [][2]int
	Rows(2, 3, func(i, k int) uint64 {
		asked = append(asked, [2]int{i, k})
		return 0
	})
	if !slices.Equal(asked, [][2]int{{0, 0}, {0, 1}, {0, 2}, {1, 0}, {1, 1}, {1, 2}}) {
		t.Errorf("asked %v", asked)
	}
}

// P8.2: fewer rows or columns than none, and sizes beyond those that Matrix reads.
func TestRowsSizes(t *testing.T) {
	none := func(i, k int) uint64 {
		t.Errorf("at(%d, %d) is asked for", i, k)
		return 0
	}
	for _, n := range []int{0, -1, -2, -5000, math.MinInt, math.MinInt + 1, math.MinInt + 1<<40, math.MinInt / 2} {
		text := strconv.Itoa(n)
		for _, k := range []int{n, 0, 3, 5000, 1 << 40, math.MaxInt, -7} {
			if s := Rows(n, k, none); s != text+" "+strconv.Itoa(k)+"\n" {
				t.Errorf("Rows(%d, %d) = %q", n, k, s)
			}
		}
		if s := Rows(2, n, none); s != "2 "+text+"\n\n\n" {
			t.Errorf("Rows(2, %d) = %q", n, s)
		}
	}
	if s := Rows(5000, 0, none); s != "5000 0\n"+strings.Repeat("\n", 5000) {
		t.Error("Rows(5000, 0)")
	}
	if s := Rows(1, 5000, func(i, k int) uint64 { return word.One }); s != "1 5000\n"+strings.Repeat("1p0 ", 4999)+"1p0\n" {
		t.Error("Rows(1, 5000)")
	}
}

// No call panics: neither without a function nor where the text would be longer than what is promised.
func TestRowsEnds(t *testing.T) {
	if s := Rows(1, 2, nil); s != "1 2\nnan nan\n" {
		t.Errorf("Rows without at = %q", s)
	}
	if s := Rows(0, 2, nil); s != "0 2\n" {
		t.Errorf("Rows without at = %q", s)
	}
	for _, n := range []int{1 << 31, 1 << 40, math.MaxInt} {
		Rows(n, n, nil)
		Rows(n, 0, nil)
		Rows(n, -1, nil)
		Rows(1, n, nil)
	}
}

// P8.2: texts that are no matrix's.
func TestMatrixBad(t *testing.T) {
	for _, s := range []string{
		"", "\n", " ", " \n", "0", "0 0", "0\n", "0 \n", " 0\n", "0  0\n", " 0 0\n", "0 0 \n", "0 0\n\n", "0 0\n ", "0 0\n0", "0 0\n0\n", "0 0\r\n", "0\t0\n", "0 0 0\n", "0\n0\n", "00 0\n", "0 00\n", "-0 0\n", "0 -0\n",
		"+1 1\n0\n", "1 +1\n0\n", "01 1\n0\n", "1 01\n0\n", "-1 0\n", "0 -1\n", "-1 -1\n", "1p0 1\n0\n", "a 1\n", "1 a\n", "1_0 0\n", "0x1 1\n0\n", "0 4097\n", "4097 0\n" + strings.Repeat("\n", 4097), "0 5000\n", "1 5000\n\n",
		"0 18446744073709551616\n", "18446744073709551616 0\n", "4294967296 0\n", "0 99999999999999999999999\n",
		"1 0\n", "1 0\n\n\n", "1 0\n0\n", "1 0\n \n", "2 0\n\n", "2 0\n\n\n\n",
		"1 1\n", "1 1\n\n", "1 1\n0", "1 1\n0 ", "1 1\n0 \n", "1 1\n 0\n", "1 1\n0\n\n", "1 1\n0\n ", "1 1\n0 0\n", "1 1\n0\n0\n", "1 1\n0\r\n", "1 1\n2p0\n", "1 1\n1\n", "1 1\nx\n", "1 1\n-nan\n", "1 1\n\xff\n", "1 1 0\n",
		"1 2\n0\n", "1 2\n0 \n", "1 2\n0  0\n", "1 2\n0\t0\n", "1 2\n0\n0\n", "1 2\n0 0 0\n", "1 2\n0 0 \n", "1 2\n 0 0\n", "1 2\n0 0",
		"2 1\n0\n", "2 1\n0 0\n", "2 1\n0\n0", "2 1\n0\n\n0\n", "2 1\n0\n0\n0\n", "2 1\n0\n0\n\n", "2 2\n0 0\n0\n", "2 2\n0 0 0\n0\n", "2 2\n0\n0 0 0\n", "2 2\n0 0 0 0\n",
		"4096 4096\n", "4096 4096\n0\n", "4096 4096\n" + strings.Repeat("\n", 4096), "4096 4096\n" + strings.Repeat("0 ", 100000),
		"\ufeff0 0\n", "０ 0\n",
	} {
		if rows, cols, all, e := Matrix(s); rows != 0 || cols != 0 || len(all) != 0 || e != api.ErrForm {
			t.Errorf("Matrix(%.40q) = %d, %d, %x, %d", s, rows, cols, all, e)
		}
	}
}

// P8.2: many matrices, there and back, and with one byte changed.
func TestMatrix(t *testing.T) {
	r := rand.New(rand.NewSource(83))
	for range 3000 {
		rows, cols := r.Intn(6), r.Intn(6)
		want := make([]uint64, rows*cols)
		for i := range want {
			want[i] = r.Uint64() &^ (1<<r.Intn(64) - 1)
			if word.Kind(want[i]) == word.Nan {
				want[i] = word.Quiet
			}
		}
		s := Rows(rows, cols, func(i, k int) uint64 { return want[i*cols+k] })
		if m, n, all, e := Matrix(s); m != rows || n != cols || !slices.Equal(all, want) || e != api.OK {
			t.Fatalf("Matrix(%q) = %d, %d, %x, %d", s, m, n, all, e)
		}
		i := r.Intn(len(s))
		const alphabet = "01p- \nx"
		c := alphabet[r.Intn(len(alphabet)):][:1]
		for _, changed := range []string{s[:i] + c + s[i+1:], s[:i] + s[i+1:], s[:i] + c + s[i:]} {
			m, n, all, e := Matrix(changed)
			if e == api.OK && Rows(m, n, func(i, k int) uint64 { return all[i*n+k] }) != changed {
				t.Fatalf("Matrix(%q) = %d, %d, %x", changed, m, n, all)
			}
		}
	}
}
