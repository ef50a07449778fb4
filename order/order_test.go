package order

import (
	"math"
	"math/rand"
	"slices"
	"testing"

	"gimbal/api"
	"gimbal/word"
)

const (
	signals    = 0x7ff0000000000001
	signalsNeg = 0xfff7ffffffffffff
	minusOne   = 0xbff0000000000000
)

// inOrder has patterns as Total has them: each stands ahead of the one behind it.
func inOrder() []uint64 {
	return []uint64{
		math.MaxUint64, word.Flip(word.Quiet), signalsNeg, 0xfff0000000000001, word.NegInf, word.Flip(word.Most), minusOne + 1, minusOne, minusOne - 1,
		word.Flip(word.Small), word.Flip(word.Small) - 1, 1<<63 | 2, 1<<63 | 1, word.Minus0,
		0, word.Least, 2, word.Small - 1, word.Small, word.One - 1, word.One, word.One + 1, word.Most, word.PosInf,
		signals, 0x7ff7ffffffffffff, word.Quiet, 0x7ff8000000000001, 0x7fffffffffffffff,
	}
}

func sign(n int) int {
	switch {
	case n < 0:
		return -1
	case n > 0:
		return 1
	}
	return 0
}

func isNanOf(b uint64) bool { return math.IsNaN(word.Float(b)) }

// byGo is how Go's own numbers stand, of what are no Nans.
func byGo(a, b uint64) int {
	x, y := word.Float(a), word.Float(b)
	switch {
	case x < y:
		return -1
	case x > y:
		return 1
	}
	return 0
}

func checkCmp(t *testing.T, a, b uint64) {
	t.Helper()
	want, wantOK := 0, false
	if !isNanOf(a) && !isNanOf(b) {
		want, wantOK = byGo(a, b), true
	}
	if c, ok := Cmp(a, b); c != want || ok != wantOK {
		t.Errorf("Cmp(%x, %x) = %d, %t, want %d, %t", a, b, c, ok, want, wantOK)
	}
	if less := Less(a, b); less != (wantOK && want == -1) {
		t.Errorf("Less(%x, %x) = %t", a, b, less)
	}
	if same := Same(a, b); same != (wantOK && want == 0) {
		t.Errorf("Same(%x, %x) = %t", a, b, same)
	}
}

// P6.1: zeros, infinities, Nans (each by itself, too), and pairs of many patterns.
func TestCmp(t *testing.T) {
	for _, a := range inOrder() {
		for _, b := range inOrder() {
			checkCmp(t, a, b)
		}
	}
	r := rand.New(rand.NewSource(61))
	for range 50000 {
		a := r.Uint64()
		b := a ^ 1<<r.Intn(64)
		checkCmp(t, a, r.Uint64())
		checkCmp(t, a, b)
		checkCmp(t, a, a)
	}
}

// P6.1: by hand, as the document says it.
func TestCmpByHand(t *testing.T) {
	for _, x := range []struct {
		a, b uint64
		want int
		ok   bool
	}{
		{word.Minus0, 0, 0, true}, {0, word.Minus0, 0, true}, {word.Minus0, word.Least, -1, true}, {0, 1<<63 | 1, 1, true},
		{word.NegInf, word.Flip(word.Most), -1, true}, {word.PosInf, word.Most, 1, true}, {word.PosInf, word.PosInf, 0, true}, {word.NegInf, word.NegInf, 0, true},
		{word.NegInf, word.PosInf, -1, true}, {minusOne, word.One, -1, true}, {minusOne - 1, minusOne, 1, true}, {word.One, word.One + 1, -1, true},
		{word.Quiet, word.Quiet, 0, false}, {signals, word.One, 0, false}, {word.One, math.MaxUint64, 0, false}, {word.PosInf, signalsNeg, 0, false},
	} {
		if c, ok := Cmp(x.a, x.b); c != x.want || ok != x.ok {
			t.Errorf("Cmp(%x, %x) = %d, %t, want %d, %t", x.a, x.b, c, ok, x.want, x.ok)
		}
	}
}

// P6.2: each pair of a list that stands in order.
func TestTotalInOrder(t *testing.T) {
	for i, a := range inOrder() {
		for k, b := range inOrder() {
			if c := Total(a, b); c != sign(i-k) {
				t.Errorf("Total(%x, %x) = %d, want %d", a, b, c, sign(i-k))
			}
		}
	}
}

// P6.2: the rule as it is worded, of any patterns.
func TestTotalAsWorded(t *testing.T) {
	const low = 1<<63 - 1
	wanted := func(a, b uint64) int {
		aNeg, bNeg := a>>63 == 1, b>>63 == 1
		switch {
		case a == b:
			return 0
		case aNeg != bNeg:
			if aNeg {
				return -1
			}
			return 1
		case (a&low < b&low) != aNeg:
			return -1
		}
		return 1
	}
	r := rand.New(rand.NewSource(62))
	for range 50000 {
		a := r.Uint64()
		for _, b := range []uint64{a, r.Uint64(), a ^ 1<<63, a ^ 1<<r.Intn(64), a + 1} {
			if c := Total(a, b); c != wanted(a, b) {
				t.Errorf("Total(%x, %x) = %d, want %d", a, b, c, wanted(a, b))
			}
		}
	}
}

func checkPair(t *testing.T, a, b, least, most uint64, f api.Flags) {
	t.Helper()
	if x, g := Max(a, b); x != most || g != f {
		t.Errorf("Max(%x, %x) = %x, %d, want %x, %d", a, b, x, g, most, f)
	}
	if x, g := Min(a, b); x != least || g != f {
		t.Errorf("Min(%x, %x) = %x, %d, want %x, %d", a, b, x, g, least, f)
	}
}

// P6.2: of numbers the one behind, the one ahead; of Nans Quiet, Invalid if one signals.
func TestMaxMin(t *testing.T) {
	for i, a := range inOrder() {
		for k, b := range inOrder() {
			switch {
			case word.Signals(a) || word.Signals(b):
				checkPair(t, a, b, word.Quiet, word.Quiet, api.Invalid)
			case isNanOf(a) || isNanOf(b):
				checkPair(t, a, b, word.Quiet, word.Quiet, 0)
			case i < k:
				checkPair(t, a, b, a, b, 0)
			default:
				checkPair(t, a, b, b, a, 0)
			}
		}
	}
	checkPair(t, 0, word.Minus0, word.Minus0, 0, 0)
	checkPair(t, word.Minus0, 0, word.Minus0, 0, 0)
	checkPair(t, word.NegInf, word.PosInf, word.NegInf, word.PosInf, 0)
	checkPair(t, minusOne, word.Flip(word.Most), word.Flip(word.Most), minusOne, 0)
	checkPair(t, word.Quiet, signals, word.Quiet, word.Quiet, api.Invalid)
	checkPair(t, math.MaxUint64, word.One, word.Quiet, word.Quiet, 0)
}

// P6.2
func TestGreatest(t *testing.T) {
	for i, x := range []struct {
		all  []uint64
		want uint64
		at   int
	}{
		{nil, 0, -1},
		{[]uint64{}, 0, -1},
		{[]uint64{0}, 0, 0},
		{[]uint64{word.Minus0}, 0, 0},
		{[]uint64{word.Minus0, 0, word.Minus0}, 0, 0},
		{[]uint64{0, 1<<63 | 1}, word.Least, 1},
		{[]uint64{1, minusOne, word.One}, word.One, 1},
		{[]uint64{word.One, minusOne}, word.One, 0},
		{[]uint64{word.One, word.One + 1, word.Flip(word.One + 2), word.One + 1}, word.One + 2, 2},
		{[]uint64{word.Most, word.NegInf, word.PosInf}, word.PosInf, 1},
		{[]uint64{word.Quiet}, word.Quiet, 0},
		{[]uint64{math.MaxUint64}, word.Quiet, 0},
		{[]uint64{word.PosInf, word.One, word.Flip(word.Quiet), signals}, word.Quiet, 2},
		{[]uint64{0, signals, word.Quiet, word.PosInf}, word.Quiet, 1},
		{[]uint64{word.PosInf, 0, 1, signalsNeg}, word.Quiet, 3},
	} {
		before := slices.Clone(x.all)
		if b, at := Greatest(x.all); b != x.want || at != x.at {
			t.Errorf("%d: Greatest = %x, %d, want %x, %d", i, b, at, x.want, x.at)
		}
		if !slices.Equal(before, x.all) {
			t.Errorf("%d: the list is changed", i)
		}
	}
}

// P6.2: long lists, against a search for each part of the answer.
func TestGreatestOfMany(t *testing.T) {
	r := rand.New(rand.NewSource(63))
	for range 3000 {
		all := make([]uint64, 1+r.Intn(30))
		for i := range all {
			all[i] = word.Of(float64(r.Intn(21) - 10))
		}
		if r.Intn(4) == 0 {
			all[r.Intn(len(all))] = word.Quiet
			all[r.Intn(len(all))] = signalsNeg
		}
		want, at := word.Quiet, slices.IndexFunc(all, isNanOf)
		if at < 0 {
			var most float64
			for _, b := range all {
				most = max(most, math.Abs(word.Float(b)))
			}
			want = word.Of(most)
			at = slices.IndexFunc(all, func(b uint64) bool { return math.Abs(word.Float(b)) == most })
		}
		if b, i := Greatest(all); b != want || i != at {
			t.Errorf("Greatest(%x) = %x, %d, want %x, %d", all, b, i, want, at)
		}
	}
}
