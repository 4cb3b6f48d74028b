// Package weigh: floating numbers as weights: see doc/01-weigh.md.
package weigh

import (
	"math"
	"strconv"
	"strings"

	"tracery/api"
)

// canonicalNaN is the one NaN that is ever answered, by its bits: other NaNs would make equal answers differ.
const canonicalNaN uint64 = 0x7ff8000000000001

// maxRead is the greatest number of bytes of a number's text.
const maxRead = 64

// maxExponent is the greatest number of digits of an exponent.
const maxExponent = 4

// The texts of what is no finite number.
const (
	textNaN      = "NaN"
	textInfinity = "INF"
	textBelow    = "-INF"
)

// Good tells whether x is a weight: a NaN fails the comparison, and -0 meets it.
func Good(x float64) bool { return x >= 0 }

// Clean answers x with one zero and one NaN.
func Clean(x float64) float64 {
	if isNaN(x) {
		return math.Float64frombits(canonicalNaN)
	}
	if x == 0 {
		return 0
	}
	return x
}

// Add answers the sum of both, cleaned.
func Add(a, b float64) float64 { return Clean(a + b) }

// Less tells whether a stands ahead of b; a NaN stands behind all others, so that the order is total.
func Less(a, b float64) bool {
	if isNaN(a) || isNaN(b) {
		return !isNaN(a)
	}
	return a < b
}

// Text writes x so that Read finds it again.
func Text(x float64) string {
	switch {
	case isNaN(x):
		return textNaN
	case math.IsInf(x, 1):
		return textInfinity
	case math.IsInf(x, -1):
		return textBelow
	}
	s := strconv.FormatFloat(x, 'g', -1, 64)
	if strings.ContainsAny(s, ".e") {
		return s
	}
	return s + ".0"
}

// Read answers the number nearest to the text s.
func Read(s string) (float64, api.Errno) {
	switch s {
	case textNaN:
		return math.Float64frombits(canonicalNaN), api.OK
	case textInfinity:
		return math.Inf(1), api.OK
	case textBelow:
		return math.Inf(-1), api.OK
	}
	if !isNumber(s) {
		return 0, api.ErrNumber
	}
	if len(s) > maxRead {
		return 0, api.ErrLong
	}
	// The form is known to be good, so that too great a number is the only error left.
	x, err := strconv.ParseFloat(s, 64)
	if err != nil {
		return 0, api.ErrBounds
	}
	return x, api.OK
}

// isNaN tells a NaN by the one comparison that it alone fails.
func isNaN(x float64) bool { return x != x }

// isNumber tells whether s has the form of a number. strconv admits more (`.5`, `1_0`, `0x1p2`, `inf`), so it can't be asked.
func isNumber(s string) bool {
	s = withoutSign(s)
	whole := countDigits(s)
	if whole == 0 {
		return false
	}
	s = s[whole:]
	if strings.HasPrefix(s, ".") {
		part := countDigits(s[1:])
		if part == 0 {
			return false
		}
		s = s[1+part:]
	}
	return s == "" || isExponent(s)
}

// isExponent tells whether s, which is not empty, has the form of an exponent, its letter ahead.
func isExponent(s string) bool {
	if s[0] != 'e' && s[0] != 'E' {
		return false
	}
	digits := withoutSign(s[1:])
	n := countDigits(digits)
	return n == len(digits) && 1 <= n && n <= maxExponent
}

// withoutSign answers s without the one sign that may stand ahead.
func withoutSign(s string) string {
	if s != "" && (s[0] == '+' || s[0] == '-') {
		return s[1:]
	}
	return s
}

// countDigits tells how many digits s begins with.
func countDigits(s string) int {
	n := 0
	for n < len(s) && '0' <= s[n] && s[n] <= '9' {
		n++
	}
	return n
}
