package weigh

import (
	"math"
	"math/rand"
	"slices"
	"testing"
)

const quietNaN = 0x7ff8000000000001

var (
	infinity = math.Inf(1)
	minus0   = math.Copysign(0, -1)
	least    = math.SmallestNonzeroFloat64
	greatest = math.MaxFloat64
)

// oddNaNs are NaNs of bits that no answer may have: quiet and signalling, of both signs.
func oddNaNs() []float64 {
	var xs []float64
	for _, b := range []uint64{0x7ff8000000000000, 0x7ff0000000000001, 0x7fffffffffffffff, 0xfff8000000000000, 0xfff8000000000001, 0xfff0000000000001, 0xffffffffffffffff, quietNaN} {
		xs = append(xs, math.Float64frombits(b))
	}
	return xs
}

// rising are numbers of all kinds, each ahead of the next.
func rising() []float64 {
	normal := math.Float64frombits(1 << 52)
	return []float64{-infinity, -greatest, -1e100, -1.5, -1, -normal, -least, 0, least, 2 * least, normal, 0.1, 1, math.Nextafter(1, 2), 1.5, 1e100, math.Nextafter(greatest, 0), greatest, infinity}
}

// anyNumbers are numbers of random bits, always the same ones.
func anyNumbers(n int) []float64 {
	r := rand.New(rand.NewSource(7))
	xs := make([]float64, n)
	for i := range xs {
		xs[i] = math.Float64frombits(r.Uint64())
	}
	return xs
}

func sameBits(a, b float64) bool { return math.Float64bits(a) == math.Float64bits(b) }

func TestGood(t *testing.T) {
	for _, x := range []float64{0, minus0, least, 0.1, 1, greatest, infinity} {
		if !Good(x) {
			t.Errorf("P1.1: Good(%v) is false", x)
		}
	}
	for _, x := range append(oddNaNs(), -least, -0.1, -1, -greatest, -infinity) {
		if Good(x) {
			t.Errorf("P1.1: Good(%v) is true", x)
		}
	}
}

func TestCleanZeroAndNaN(t *testing.T) {
	for _, x := range []float64{0, minus0} {
		if math.Float64bits(Clean(x)) != 0 {
			t.Errorf("P1.1: Clean(%v) is not +0", x)
		}
	}
	for _, x := range oddNaNs() {
		if math.Float64bits(Clean(x)) != quietNaN {
			t.Errorf("P1.1: Clean of the NaN %x is %x", math.Float64bits(x), math.Float64bits(Clean(x)))
		}
	}
}

func TestCleanLeavesOthers(t *testing.T) {
	for _, x := range append(rising(), anyNumbers(2000)...) {
		if x != x {
			continue
		}
		if !sameBits(Clean(x), x) {
			t.Errorf("P1.1: Clean(%v) is %v", x, Clean(x))
		}
	}
}

func TestAddSums(t *testing.T) {
	for _, c := range []struct{ a, b, want float64 }{
		{0.5, 0.25, 0.75},
		{0.1, 0.2, 0.30000000000000004},
		{-3, 1, -2},
		{minus0, minus0, 0},
		{minus0, 0, 0},
		{0, minus0, 0},
		{1.5, -1.5, 0},
		{-least, least, 0},
		{least, least, 2 * least},
		{9007199254740992, 1, 9007199254740992},
		{9007199254740994, 1, 9007199254740996},
		{greatest, greatest, infinity},
		{greatest, math.Ldexp(1, 969), greatest},
		{greatest, math.Ldexp(1, 970), infinity},
		{-greatest, -greatest, -infinity},
		{infinity, 1, infinity},
		{infinity, -greatest, infinity},
		{-infinity, -infinity, -infinity},
	} {
		if got := Add(c.a, c.b); !sameBits(got, c.want) {
			t.Errorf("P1.2: Add(%v, %v) is %v, want %v", c.a, c.b, got, c.want)
		}
		if got := Add(c.b, c.a); !sameBits(got, c.want) {
			t.Errorf("P1.2: Add(%v, %v) is %v, want %v", c.b, c.a, got, c.want)
		}
	}
}

func TestAddNaN(t *testing.T) {
	pairs := [][2]float64{{infinity, -infinity}, {-infinity, infinity}}
	for _, x := range oddNaNs() {
		for _, y := range []float64{0, minus0, 1, infinity, -infinity, x} {
			pairs = append(pairs, [2]float64{x, y}, [2]float64{y, x})
		}
	}
	for _, p := range pairs {
		if got := math.Float64bits(Add(p[0], p[1])); got != quietNaN {
			t.Errorf("P1.2: Add(%v, %v) has the bits %x", p[0], p[1], got)
		}
	}
}

func TestAddOfWeightsIsAtLeastEach(t *testing.T) {
	weights := []float64{minus0}
	for _, x := range append(rising(), anyNumbers(400)...) {
		if x >= 0 {
			weights = append(weights, x)
		}
	}
	for _, a := range weights {
		for _, b := range weights {
			sum := Add(a, b)
			if !Good(sum) || Less(sum, a) || Less(sum, b) {
				t.Fatalf("what follows: Add(%v, %v) is %v", a, b, sum)
			}
		}
	}
}

func TestLessOrders(t *testing.T) {
	order := append(rising(), math.NaN())
	for i, a := range order {
		for k, b := range order {
			if Less(a, b) != (i < k) {
				t.Errorf("P1.2: Less(%v, %v) is %v", a, b, Less(a, b))
			}
		}
	}
}

func TestLessZerosAndNaNsAlike(t *testing.T) {
	if Less(minus0, 0) || Less(0, minus0) || Less(minus0, minus0) {
		t.Error("P1.2: -0 and +0 are not alike")
	}
	if !Less(-least, minus0) || !Less(minus0, least) {
		t.Error("P1.2: -0 stands at a wrong place")
	}
	for _, a := range oddNaNs() {
		for _, b := range oddNaNs() {
			if Less(a, b) {
				t.Errorf("P1.2: the NaN %x stands ahead of %x", math.Float64bits(a), math.Float64bits(b))
			}
		}
		if !Less(infinity, a) || Less(a, infinity) || Less(a, -infinity) {
			t.Errorf("P1.2: the NaN %x does not stand last", math.Float64bits(a))
		}
	}
}

func TestLessSorts(t *testing.T) {
	xs := append(anyNumbers(500), oddNaNs()...)
	slices.SortFunc(xs, func(a, b float64) int {
		switch {
		case Less(a, b):
			return -1
		case Less(b, a):
			return 1
		}
		return 0
	})
	for i := range len(xs) - 1 {
		if xs[i] == xs[i] && xs[i] > xs[i+1] || xs[i] != xs[i] && xs[i+1] == xs[i+1] {
			t.Fatalf("P1.2: sorted, %v stands ahead of %v", xs[i], xs[i+1])
		}
	}
}
