package hex

import (
	"math"
	"math/big"
	"math/rand"
	"strconv"
	"strings"
	"testing"

	"gimbal/api"
	"gimbal/word"
)

// known has patterns, and their texts by hand.
func known() map[uint64]string {
	return map[uint64]string{
		0: "0", word.Minus0: "-0", word.PosInf: "inf", word.NegInf: "-inf", word.Quiet: "nan",
		word.One: "1p0", word.Flip(word.One): "-1p0", word.Of(-0.75): "-3p-2", word.Of(2): "1p1", word.Of(3): "3p0", word.Of(10): "5p1", word.Of(26): "dp1",
		word.Of(255): "ffp0", word.Of(256): "1p8", word.Of(257): "101p0", word.Of(0.1): "ccccccccccccdp-55", word.Of(-1e10): "-9502f9p10",
		word.Least: "1p-1074", word.Flip(word.Least): "-1p-1074", 2: "1p-1073", 3: "3p-1074", word.Small - 1: "fffffffffffffp-1074",
		word.Small: "1p-1022", word.Small + 1: "10000000000001p-1074", 0x0020000000000001: "10000000000001p-1073",
		word.Most: "1fffffffffffffp971", word.Flip(word.Most): "-1fffffffffffffp971", 0x7fe0000000000000: "1p1023", word.One + 1: "10000000000001p-52", word.One - 1: "1fffffffffffffp-53",
	}
}

// P8.1: texts by hand, there and back.
func TestTextByHand(t *testing.T) {
	for b, want := range known() {
		if s := Text(b); s != want {
			t.Errorf("Text(%x) = %q, want %q", b, s, want)
		}
		if x, e := Parse(want); x != b || e != api.OK {
			t.Errorf("Parse(%q) = %x, %d, want %x", want, x, e, b)
		}
	}
	for _, b := range []uint64{word.Quiet, word.Flip(word.Quiet), word.PosInf + 1, word.NegInf + 1, 0x7ff7ffffffffffff, math.MaxUint64, math.MaxUint64 >> 1} {
		if s := Text(b); s != "nan" {
			t.Errorf("Text(%x) = %q", b, s)
		}
	}
}

// valueOf is what the text of a number that isn't 0 says, by Go's own means; nil: it hasn't the form of one.
func valueOf(s string) *big.Rat {
	size, neg := strings.CutPrefix(s, "-")
	first, second, found := strings.Cut(size, "p")
	whole, ok := new(big.Int).SetString(first, 16)
	exp, err := strconv.Atoi(second)
	usual := ok && whole.Text(16) == first && whole.Sign() > 0 && whole.Bit(0) == 1 && strconv.Itoa(exp) == second
	if !found || err != nil || !usual {
		return nil
	}
	x := new(big.Rat).SetInt(whole)
	power := new(big.Rat).SetInt(new(big.Int).Lsh(big.NewInt(1), uint(max(exp, -exp))))
	if exp < 0 {
		power.Inv(power)
	}
	if x.Mul(x, power); neg {
		x.Neg(x)
	}
	return x
}

// P8.1: many numbers of each kind: the text's value is theirs, and it is read again.
func TestText(t *testing.T) {
	r := rand.New(rand.NewSource(81))
	for i := range 20000 {
		b := r.Uint64()
		switch i % 3 {
		case 0: // few bits
			b &^= 1<<r.Intn(53) - 1
		case 1: // the least exponents
			b = word.Make(word.Neg(b), r.Intn(3), b>>r.Intn(53))
		}
		if !word.Finite(b) || word.Abs(b) == 0 {
			continue
		}
		s := Text(b)
		if x := valueOf(s); x == nil || x.Cmp(new(big.Rat).SetFloat64(word.Float(b))) != 0 {
			t.Fatalf("Text(%x) = %q", b, s)
		}
		if x, e := Parse(s); x != b || e != api.OK {
			t.Fatalf("Parse(%q) = %x, %d, want %x", s, x, e, b)
		}
	}
}

func checkBad(t *testing.T, s string) {
	t.Helper()
	if b, e := Parse(s); b != 0 || e != api.ErrForm {
		t.Errorf("Parse(%q) = %x, %d", s, b, e)
	}
}

// P8.1: texts that are no pattern's.
func TestParseBad(t *testing.T) {
	for _, s := range []string{
		"", "-", "--0", "+0", "00", "-00", "0p0", "-0p0", "0x0", "+inf", "--inf", "-nan", "+nan", "Inf", "NaN", "INF", "infinity", "inf ", " nan", "nan\n", "1", "-1", "a", "p", "p0", "-p0", "1p",
		"-1p", "1p-", "1p--1", "1p+1", "1p-0", "1p00", "1p01", "1p-01", "1p1_0", "1_1p0", "01p0", "-01p0", "+1p0", "--1p0", "- 1p0", "2p0", "10p0", "1ep0", "-6p-3",
		"Ap0", "Fp0", "1P0", "gp0", "0x1p0", "1.8p0", "1p0.0", "1p0x", "1pa", "1p0 ", " 1p0", "1 p0", "1p 0", "1p0\n", "1p0\x00", "1p0p0", "1pp0", "1p0p", "\xff", "1\xffp0", "1p\xff", "1p0\xff", "１p0", "1p０", "\uFFFDp0",
		"1p-1075", "3p-1075", "1p1024", "3p1023", "1p2000", "1p-2000", "1fffffffffffffp972", "3p-1076", "20000000000001p0", "3fffffffffffffp0", "3fffffffffffffp-1074", "10000000000001p-1075",
		"10000000000000001p0", "1000000000000000000000000000000001p0", "1p18446744073709551616", "1p9223372036854775807", "1p-9223372036854775808", "1p99999999999999999999", "1p4294967296", "1p-4294967296", "1p2048", "1p-2048",
		"ffffffffffffffffp0", "1p971 1", strings.Repeat("1", 100000) + "p0", "1p" + strings.Repeat("1", 100000), strings.Repeat("0", 100000),
	} {
		checkBad(t, s)
	}
}

// wanted is what Parse must answer, of a text of few bytes.
func wanted(s string) (uint64, bool) {
	for b, text := range known() {
		if s == text {
			return b, true
		}
	}
	x := valueOf(s)
	if x == nil {
		return 0, false
	}
	number, _ := x.Float64()
	return word.Of(number), new(big.Rat).SetFloat64(number).Cmp(x) == 0
}

// P8.1: all short texts of some bytes.
func TestParseAllShort(t *testing.T) {
	const alphabet = "-01af2p+ n"
	texts := []string{""}
	for range 5 {
		var longer []string
		for _, s := range texts {
			for _, r := range alphabet {
				longer = append(longer, s+string(r))
			}
		}
		texts = longer
		for _, s := range texts {
			want, ok := wanted(s)
			b, e := Parse(s)
			if ok && (b != want || e != api.OK) || !ok && (b != 0 || e != api.ErrForm) {
				t.Fatalf("Parse(%q) = %x, %d, want %x, %t", s, b, e, want, ok)
			}
		}
	}
}

// P8.1: a pattern's text with one byte changed, left out or put in is another one's, or none's.
func TestParseChanged(t *testing.T) {
	const alphabet = "-0123456789abcdefp+ \n\xff"
	r := rand.New(rand.NewSource(82))
	for range 20000 {
		b := r.Uint64() &^ (1<<r.Intn(53) - 1)
		s := Text(b)
		i := r.Intn(len(s))
		c := alphabet[r.Intn(len(alphabet)):][:1]
		for _, changed := range []string{s[:i] + c + s[i+1:], s[:i] + s[i+1:], s[:i] + c + s[i:]} {
			if x, e := Parse(changed); e == api.OK && Text(x) != changed || e != api.OK && (x != 0 || e != api.ErrForm) {
				t.Fatalf("Parse(%q) = %x, %d", changed, x, e)
			}
		}
	}
}
