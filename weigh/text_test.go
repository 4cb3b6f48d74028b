package weigh

import (
	"math"
	"math/big"
	"math/rand"
	"regexp"
	"strconv"
	"strings"
	"testing"

	"tracery/api"
)

// form is what P1.4 says a number's text looks like.
var form = regexp.MustCompile(`^[+-]?[0-9]+(\.[0-9]+)?([eE][+-]?[0-9]{1,4})?$`)

// edge is 2^1024 - 2^970 in full: the least number whose nearest is an infinity.
func edge() string {
	x := new(big.Int).Lsh(big.NewInt(1), 1024)
	return x.Sub(x, new(big.Int).Lsh(big.NewInt(1), 970)).String()
}

// expectRead also holds a zero's sign and a NaN's bits against what is wanted.
func expectRead(t *testing.T, s string, want float64, e api.Errno) {
	t.Helper()
	if got, err := Read(s); err != e || !sameBits(got, want) {
		t.Errorf("P1.4: Read(%q) is %v, %v, want %v, %v", s, got, err, want, e)
	}
}

func TestTextWrites(t *testing.T) {
	for _, c := range []struct {
		x    float64
		want string
	}{
		{0, "0.0"}, {minus0, "-0.0"}, {1, "1.0"}, {-1, "-1.0"}, {0.1, "0.1"}, {-2.5, "-2.5"},
		{100000, "100000.0"}, {123456, "123456.0"}, {1e20, "1e+20"}, {1e21, "1e+21"}, {1e22, "1e+22"},
		{123456789, "1.23456789e+08"}, {0.0001, "0.0001"}, {0.00001, "1e-05"}, {0.30000000000000004, "0.30000000000000004"},
		{least, "5e-324"}, {-least, "-5e-324"}, {greatest, "1.7976931348623157e+308"}, {-greatest, "-1.7976931348623157e+308"},
		{math.Float64frombits(1 << 52), "2.2250738585072014e-308"}, {math.Float64frombits(1<<52 - 1), "2.225073858507201e-308"},
		{infinity, "INF"}, {-infinity, "-INF"},
	} {
		if got := Text(c.x); got != c.want {
			t.Errorf("P1.3: Text(%v) is %q, want %q", c.x, got, c.want)
		}
	}
	for _, x := range oddNaNs() {
		if got := Text(x); got != "NaN" {
			t.Errorf("P1.3: Text of the NaN %x is %q", math.Float64bits(x), got)
		}
	}
}

func TestTextIsAsStrconvWrites(t *testing.T) {
	for _, x := range append(rising(), anyNumbers(5000)...) {
		if x != x || math.IsInf(x, 0) {
			continue
		}
		got, plain := Text(x), strconv.FormatFloat(x, 'g', -1, 64)
		if got != plain && got != plain+".0" || !strings.ContainsAny(got, ".e") || got != plain && strings.ContainsAny(plain, ".e") {
			t.Fatalf("P1.3: Text(%v) is %q", x, got)
		}
	}
}

func TestReadFindsWhatTextWrote(t *testing.T) {
	xs := append(append(rising(), anyNumbers(20000)...), minus0)
	for _, x := range append(xs, oddNaNs()...) {
		want := x
		if x != x {
			want = math.Float64frombits(quietNaN)
		}
		if got, e := Read(Text(x)); e != api.OK || !sameBits(got, want) {
			t.Fatalf("what follows: Read(%q) is %v, %v", Text(x), got, e)
		}
	}
}

func TestReadWords(t *testing.T) {
	expectRead(t, "NaN", math.Float64frombits(quietNaN), api.OK)
	expectRead(t, "INF", infinity, api.OK)
	expectRead(t, "-INF", -infinity, api.OK)
	for _, s := range []string{"nan", "NAN", "-NaN", "+NaN", "inf", "Inf", "+INF", "+Inf", "-inf", "--INF", "INFINITY", "Infinity", "infinity", "INF ", " INF", "NaN.0", "INFe1", "INF0", "NaN\x00"} {
		expectRead(t, s, 0, api.ErrNumber)
	}
}

func TestReadNumbers(t *testing.T) {
	for _, c := range []struct {
		s    string
		want float64
	}{
		{"0", 0}, {"1", 1}, {"+1.50", 1.5}, {"-2", -2}, {"007", 7}, {"00.10", 0.1}, {"1e0005", 1e5}, {"1E-2", 0.01}, {"1E+2", 100}, {"12.5e1", 125},
		{"-0", minus0}, {"+0", 0}, {"-0.000", minus0}, {"-0e9999", minus0}, {"0e9999", 0}, {"0e-9999", 0},
		{"1e-9999", 0}, {"-1e-9999", minus0}, {"1e-0400", 0},
		{"5e-324", least}, {"-5e-324", -least}, {"3e-324", least}, {"2e-324", 0},
		{"2.2250738585072014e-308", math.Float64frombits(1 << 52)}, {"2.2250738585072011e-308", math.Float64frombits(1<<52 - 1)},
		{"1.7976931348623157e308", greatest}, {"-1.7976931348623158e308", -greatest},
		{strings.Repeat("0", 55) + "1e9", 1e9},
		{"0." + strings.Repeat("0", 55) + "1e0056", 1},
	} {
		expectRead(t, c.s, c.want, api.OK)
	}
}

func TestReadHalves(t *testing.T) {
	for _, c := range []struct {
		s    string
		want float64
	}{
		{"9007199254740993", 9007199254740992},
		{"9007199254740993.000000000000000000000000000000000000000000001", 9007199254740994},
		{"9007199254740992.999999999999999999999999999999999999999999999", 9007199254740992},
		{"9007199254740995", 9007199254740996},
		{"-9007199254740993", -9007199254740992},
		{"-9007199254740995", -9007199254740996},
		{"9007199254740993e0", 9007199254740992},
		{"90071992547409.95e2", 9007199254740996},
		{"4503599627370496.5", 4503599627370496},
		{"4503599627370497.5", 4503599627370498},
		{"4503599627370497.4999999999999999999999999999999999999999999999", 4503599627370497},
		// half of the least number, cut off below its last digits, and one digit more
		{"2.470328229206232720882843964341106861825299013071623822127e-324", 0},
		{"2.470328229206232720882843964341106861825299013071623822128e-324", least},
		// between the greatest number without and the least one with a leading bit
		{"2.225073858507201136057409796709131975934819546351645648023e-308", math.Float64frombits(1<<52 - 1)},
		{"2.225073858507201136057409796709131975934819546351645648024e-308", math.Float64frombits(1 << 52)},
	} {
		expectRead(t, c.s, c.want, api.OK)
	}
}

func TestReadAtTheGreatest(t *testing.T) {
	digits := edge()
	for _, sign := range []string{"", "+", "-"} {
		below := sign + digits[:1] + "." + digits[1:58] + "e308"
		above := sign + digits[:1] + "." + digits[1:57] + string(digits[57]+1) + "e308"
		want := greatest
		if sign == "-" {
			want = -greatest
		}
		expectRead(t, below, want, api.OK)
		expectRead(t, above, 0, api.ErrBounds)
	}
	expectRead(t, "1.7976931348623158e308", greatest, api.OK)
	expectRead(t, "1.7976931348623159e308", 0, api.ErrBounds)
	expectRead(t, "-1.7976931348623159e308", 0, api.ErrBounds)
	for _, s := range []string{"1e309", "1e999", "1e9999", "-1e9999", "0.1e310", "100e307", "2e308"} {
		expectRead(t, s, 0, api.ErrBounds)
	}
	expectRead(t, digits, 0, api.ErrLong)
}

func TestReadLengths(t *testing.T) {
	ones := strings.Repeat("1", 64)
	expectRead(t, ones, 1.1111111111111112e63, api.OK)
	expectRead(t, ones+"1", 0, api.ErrLong)
	expectRead(t, "+"+ones[1:], 1.1111111111111112e62, api.OK)
	expectRead(t, "+"+ones, 0, api.ErrLong)
	expectRead(t, strings.Repeat("0", 64), 0, api.OK)
	expectRead(t, strings.Repeat("0", 65), 0, api.ErrLong)
	expectRead(t, "-"+strings.Repeat("0", 63), minus0, api.OK)
	expectRead(t, "0."+ones[2:], 0.1111111111111111, api.OK)
	expectRead(t, "0."+ones[1:], 0, api.ErrLong)
	expectRead(t, ones[:59]+"e9999", 0, api.ErrBounds)
	expectRead(t, ones[:60]+"e9999", 0, api.ErrLong)
	expectRead(t, strings.Repeat("9", 1<<20), 0, api.ErrLong)
}

func TestReadFirstError(t *testing.T) {
	for _, s := range []string{strings.Repeat("1", 65) + "x", strings.Repeat("x", 65), strings.Repeat("1", 65) + ".", strings.Repeat("1", 65) + "e00001", "." + strings.Repeat("1", 65), strings.Repeat(" ", 1<<20), "1e99999", "1e999x", "1e09999"} {
		expectRead(t, s, 0, api.ErrNumber)
	}
	for _, s := range []string{"1" + strings.Repeat("0", 64), "1" + strings.Repeat("0", 400), "1" + strings.Repeat("0", 65) + "e9999", "-1" + strings.Repeat("0", 400)} {
		expectRead(t, s, 0, api.ErrLong)
	}
}

func TestReadRefuses(t *testing.T) {
	for _, s := range []string{"", " ", "+", "-", ".", "e", "e5", ".5", "+.5", "5.", "-5.", "5.e1", ".e1", "1e", "1e+", "1e-", "1e00005", "1e+00005", "1e1.5", "1e1e1", "1.2.3", "--1", "+-1", "1e--1", "1 ", " 1", "1\n", "1\x00", "\x001", "0x1", "0x1p2", "0b1", "0o7", "1p2", "1_0", "1_000.0", "1,5", "1f", "\u00bd", "\u0661", "\uff11", "\u22121", "\xff", "1\xff"} {
		expectRead(t, s, 0, api.ErrNumber)
	}
}

// wantError is what P1.4 asks of a text by its form and length, if it is not beyond bounds.
func wantError(s string) api.Errno {
	switch {
	case s == "NaN" || s == "INF" || s == "-INF":
		return api.OK
	case !form.MatchString(s):
		return api.ErrNumber
	case len(s) > 64:
		return api.ErrLong
	}
	return api.OK
}

func TestReadFormsOfAllShortTexts(t *testing.T) {
	letters := "+-05.eE"
	texts := []string{""}
	for range 6 {
		var longer []string
		for _, s := range texts {
			for i := range len(letters) {
				longer = append(longer, s+letters[i:i+1])
			}
		}
		for _, s := range longer {
			_, e := Read(s)
			if want := wantError(s); e != want && !(want == api.OK && e == api.ErrBounds) {
				t.Fatalf("P1.4: Read(%q) tells %v, want %v", s, e, want)
			}
		}
		texts = longer
	}
}

func TestReadAnyByteAnywhere(t *testing.T) {
	for _, s := range []string{"", "1", "-1.5", "12.75e+1", "NaN", "-INF"} {
		for at := range len(s) + 1 {
			for b := range 256 {
				text := s[:at] + string([]byte{byte(b)}) + s[at:]
				x, e := Read(text)
				if e != wantError(text) || e != api.OK && math.Float64bits(x) != 0 {
					t.Fatalf("P1.4: Read(%q) is %v, %v", text, x, e)
				}
			}
		}
	}
}

// nearest reckons in exact fractions what P1.4 asks of a text that is a number; e is at most some hundreds here.
func nearest(s string) (float64, api.Errno) {
	exact, _ := new(big.Rat).SetString(s)
	x, _ := exact.Float64()
	if math.IsInf(x, 0) {
		return 0, api.ErrBounds
	}
	if s[0] == '-' {
		return math.Copysign(x, -1), api.OK
	}
	return x, api.OK
}

func randomDigits(r *rand.Rand, most int) string {
	b := make([]byte, 1+r.Intn(most))
	for i := range b {
		b[i] = byte('0' + r.Intn(10))
	}
	return string(b)
}

func TestReadIsNearest(t *testing.T) {
	r := rand.New(rand.NewSource(3))
	for range 20000 {
		s := []string{"", "+", "-"}[r.Intn(3)] + randomDigits(r, 25)
		if r.Intn(2) == 0 {
			s += "." + randomDigits(r, 25)
		}
		if r.Intn(3) > 0 {
			s += []string{"e", "E", "e+", "e-", "E-"}[r.Intn(5)] + strconv.Itoa(r.Intn(360))
		}
		want, e := nearest(s)
		expectRead(t, s, want, e)
	}
}

func TestReadIsNearestAboutHalves(t *testing.T) {
	r := rand.New(rand.NewSource(4))
	for range 5000 {
		// an odd number of 54 bits lies midway between two float64 numbers
		half := strconv.FormatUint(1<<53|r.Uint64()>>11|1, 10)
		for _, s := range []string{half, half + ".0", half + ".0000000001", "-" + half, half + "e0", half[:5] + "." + half[5:] + "e" + strconv.Itoa(len(half)-5)} {
			want, e := nearest(s)
			expectRead(t, s, want, e)
		}
	}
}

func TestReadEndsOnAnyBytes(t *testing.T) {
	r := rand.New(rand.NewSource(5))
	for range 20000 {
		b := make([]byte, r.Intn(80))
		for i := range b {
			b[i] = "0123456789+-.eEINFa \xff"[r.Intn(21)]
		}
		x, e := Read(string(b))
		if e != api.OK && math.Float64bits(x) != 0 {
			t.Fatalf("P0.2: Read(%q) is %v, %v", b, x, e)
		}
		if again, e2 := Read(string(b)); e2 != e || !sameBits(x, again) {
			t.Fatalf("P0.5: Read(%q) is %v, %v, then %v, %v", b, x, e, again, e2)
		}
	}
}
