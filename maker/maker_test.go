package maker

import (
	"math"
	"slices"
	"testing"

	"tracery/api"
	"tracery/net"
)

// of makes a net of n nodes, its edges' ends in a row.
func of(n int, ends ...int) api.Net {
	g := api.Net{N: n}
	for i := 0; i < len(ends); i += 2 {
		g.Edges = append(g.Edges, [2]int{ends[i], ends[i+1]})
	}
	return g
}

// A one is a call that takes one number, with the least that it takes and the greatest.
type one struct {
	name        string
	ask         func(n int) (api.Net, api.Errno)
	least, most int
}

func ones() []one {
	return []one{
		{"Path", Path, 1, 1024},
		{"Cycle", Cycle, 1, 1024},
		{"Complete", Complete, 1, 78},
		{"Wheel", Wheel, 3, 1023},
		{"Prism", Prism, 3, 512},
		{"Bond", Bond, 1, 3072},
		{"Stack", func(n int) (api.Net, api.Errno) { return Stack(n, 5) }, 3, 1024},
		{"Two of one", func(n int) (api.Net, api.Errno) { return Two(1, n) }, 1, 1023},
		{"Two with one", func(n int) (api.Net, api.Errno) { return Two(n, 1) }, 1, 1023},
		{"Two of three", func(n int) (api.Net, api.Errno) { return Two(3, n) }, 1, 1021},
		{"Two with four", func(n int) (api.Net, api.Errno) { return Two(n, 4) }, 1, 768},
		{"Two of 48", func(n int) (api.Net, api.Errno) { return Two(48, n) }, 1, 64},
		{"Two of seven", func(n int) (api.Net, api.Errno) { return Two(7, n) }, 1, 438},
		{"Grid of a column", func(n int) (api.Net, api.Errno) { return Grid(1, n) }, 1, 1024},
		{"Grid of a row", func(n int) (api.Net, api.Errno) { return Grid(n, 1) }, 1, 1024},
		{"Grid of 32 columns", func(n int) (api.Net, api.Errno) { return Grid(32, n) }, 1, 32},
		{"Grid of 3 rows", func(n int) (api.Net, api.Errno) { return Grid(n, 3) }, 1, 341},
		{"Random of n nodes", func(n int) (api.Net, api.Errno) { return Random(n, 3072, 5) }, 1, 1024},
		{"Random of m edges", func(m int) (api.Net, api.Errno) { return Random(1024, m, 5) }, 0, 3072},
	}
}

func TestPathCycleComplete(t *testing.T) {
	check := gets(t)
	g, e := Path(1)
	check("Path(1)", g, e, of(1))
	g, e = Path(2)
	check("Path(2)", g, e, of(2, 0, 1))
	g, e = Path(4)
	check("Path(4)", g, e, of(4, 0, 1, 1, 2, 2, 3))
	g, e = Cycle(1)
	check("Cycle(1)", g, e, of(1, 0, 0))
	g, e = Cycle(2)
	check("Cycle(2)", g, e, of(2, 0, 1, 1, 0))
	g, e = Cycle(3)
	check("Cycle(3)", g, e, of(3, 0, 1, 1, 2, 2, 0))
	g, e = Cycle(5)
	check("Cycle(5)", g, e, of(5, 0, 1, 1, 2, 2, 3, 3, 4, 4, 0))
	g, e = Complete(1)
	check("Complete(1)", g, e, of(1))
	g, e = Complete(2)
	check("Complete(2)", g, e, of(2, 0, 1))
	g, e = Complete(4)
	check("Complete(4)", g, e, of(4, 0, 1, 0, 2, 0, 3, 1, 2, 1, 3, 2, 3))
}

func TestTwoGridBond(t *testing.T) {
	check := gets(t)
	g, e := Two(1, 1)
	check("Two(1, 1)", g, e, of(2, 0, 1))
	g, e = Two(3, 1)
	check("Two(3, 1)", g, e, of(4, 0, 3, 1, 3, 2, 3))
	g, e = Two(1, 3)
	check("Two(1, 3)", g, e, of(4, 0, 1, 0, 2, 0, 3))
	g, e = Two(2, 3)
	check("Two(2, 3)", g, e, of(5, 0, 2, 0, 3, 0, 4, 1, 2, 1, 3, 1, 4))
	g, e = Grid(1, 1)
	check("Grid(1, 1)", g, e, of(1))
	g, e = Grid(3, 1)
	check("Grid(3, 1)", g, e, of(3, 0, 1, 1, 2))
	g, e = Grid(1, 3)
	check("Grid(1, 3)", g, e, of(3, 0, 1, 1, 2))
	g, e = Grid(2, 2)
	check("Grid(2, 2)", g, e, of(4, 0, 1, 0, 2, 1, 3, 2, 3))
	g, e = Grid(3, 2)
	check("Grid(3, 2)", g, e, of(6, 0, 1, 0, 3, 1, 2, 1, 4, 2, 5, 3, 4, 4, 5))
	g, e = Grid(2, 3)
	check("Grid(2, 3)", g, e, of(6, 0, 1, 0, 2, 1, 3, 2, 3, 2, 4, 3, 5, 4, 5))
	g, e = Bond(1)
	check("Bond(1)", g, e, of(2, 0, 1))
	g, e = Bond(3)
	check("Bond(3)", g, e, of(2, 0, 1, 0, 1, 0, 1))
}

func TestWheelPrism(t *testing.T) {
	check := gets(t)
	g, e := Wheel(3)
	check("Wheel(3)", g, e, of(4, 0, 1, 1, 2, 2, 0, 3, 0, 3, 1, 3, 2))
	g, e = Wheel(4)
	check("Wheel(4)", g, e, of(5, 0, 1, 1, 2, 2, 3, 3, 0, 4, 0, 4, 1, 4, 2, 4, 3))
	g, e = Prism(3)
	check("Prism(3)", g, e, of(6, 0, 1, 1, 2, 2, 0, 3, 4, 4, 5, 5, 3, 0, 3, 1, 4, 2, 5))
	g, e = Prism(4)
	check("Prism(4)", g, e, of(8, 0, 1, 1, 2, 2, 3, 3, 0, 4, 5, 5, 6, 6, 7, 7, 4, 0, 4, 1, 5, 2, 6, 3, 7))
}

func gets(t *testing.T) func(name string, got api.Net, e api.Errno, want api.Net) {
	return func(name string, got api.Net, e api.Errno, want api.Net) {
		t.Helper()
		if !net.Same(got, want) || e != api.OK {
			t.Errorf("P5.1: %s: %v, %v", name, got, e)
		}
	}
}

// TestSizes: how many nodes and edges each kind has, at all numbers that it takes.
func TestSizes(t *testing.T) {
	sizes := map[string]func(n int) (int, int){
		"Path":               func(n int) (int, int) { return n, n - 1 },
		"Cycle":              func(n int) (int, int) { return n, n },
		"Complete":           func(n int) (int, int) { return n, n * (n - 1) / 2 },
		"Wheel":              func(n int) (int, int) { return n + 1, 2 * n },
		"Prism":              func(n int) (int, int) { return 2 * n, 3 * n },
		"Bond":               func(n int) (int, int) { return 2, n },
		"Stack":              func(n int) (int, int) { return n, 3*n - 6 },
		"Two of one":         func(n int) (int, int) { return n + 1, n },
		"Two with one":       func(n int) (int, int) { return n + 1, n },
		"Two of three":       func(n int) (int, int) { return n + 3, 3 * n },
		"Two with four":      func(n int) (int, int) { return n + 4, 4 * n },
		"Two of 48":          func(n int) (int, int) { return n + 48, 48 * n },
		"Two of seven":       func(n int) (int, int) { return n + 7, 7 * n },
		"Grid of a column":   func(n int) (int, int) { return n, n - 1 },
		"Grid of a row":      func(n int) (int, int) { return n, n - 1 },
		"Grid of 32 columns": func(n int) (int, int) { return 32 * n, 63*n - 32 },
		"Grid of 3 rows":     func(n int) (int, int) { return 3 * n, 5*n - 3 },
		"Random of n nodes":  func(n int) (int, int) { return n, 3072 },
		"Random of m edges":  func(m int) (int, int) { return 1024, m },
	}
	for _, c := range ones() {
		step := max(1, c.most/97)
		for n := c.least; n <= c.most; n += step {
			sized(t, c, n, sizes[c.name])
		}
		sized(t, c, c.most, sizes[c.name])
		sized(t, c, c.most-1, sizes[c.name])
	}
}

func sized(t *testing.T, c one, n int, size func(int) (int, int)) {
	t.Helper()
	nodes, edges := size(n)
	g, e := c.ask(n)
	if g.N != nodes || len(g.Edges) != edges || !net.May(g) || e != api.OK {
		t.Errorf("P5: %s at %d: %d nodes, %d edges, %v", c.name, n, g.N, len(g.Edges), e)
	}
}

// TestEdgesOfWhatMayBe: one below the least and one beyond the greatest, and far beyond them.
func TestEdgesOfWhatMayBe(t *testing.T) {
	for _, c := range ones() {
		for _, n := range []int{c.least - 1, -1, -2, -1 << 32, math.MinInt32, math.MinInt, math.MinInt + 1} {
			refused(t, c.name, n, 0, api.ErrArg)(c.ask(n))
		}
		for _, n := range []int{c.most + 1, 3073, 1 << 16, 1<<16 + 1, 1 << 31, 1 << 32, 1<<32 + 1, 1 << 62, 1<<62 + 1, math.MaxInt/3 + 2, math.MaxInt - 1, math.MaxInt} {
			refused(t, c.name, n, 0, api.ErrLimit)(c.ask(n))
		}
	}
}

func refused(t *testing.T, name string, a, b int, want api.Errno) func(api.Net, api.Errno) {
	return func(g api.Net, e api.Errno) {
		t.Helper()
		if g.N != 0 || len(g.Edges) != 0 || e != want {
			t.Errorf("P5: %s at %d, %d: %d nodes, %d edges, %v, not %v", name, a, b, g.N, len(g.Edges), e, want)
		}
	}
}

// A pair is a call that takes two numbers.
type pair struct {
	name        string
	ask         func(a, b int) (api.Net, api.Errno)
	first, then int // the least of each
}

func pairs() []pair {
	return []pair{
		{"Two", Two, 1, 1},
		{"Grid", Grid, 1, 1},
		{"Random", func(n, m int) (api.Net, api.Errno) { return Random(n, m, 1) }, 1, 0},
	}
}

// TestPairs: a number that is too small counts ahead of one that is too great; sums and products that fit into no int are too great.
func TestPairs(t *testing.T) {
	small := []int{-1, -1 << 31, -1 << 32, -1 << 62, math.MinInt + 1, math.MinInt}
	great := []int{3073, 1 << 31, 1<<31 + 1, 1 << 32, 1<<32 + 1, 1 << 61, 1 << 62, 1<<62 + 1, math.MaxInt/2 + 1, math.MaxInt - 1, math.MaxInt}
	for _, c := range pairs() {
		for _, a := range append(small, c.first-1) {
			for _, b := range slices.Concat(small, great, []int{c.then - 1, c.then, 1, 7, 1024}) {
				refused(t, c.name, a, b, api.ErrArg)(c.ask(a, b))
			}
		}
		for _, b := range append(small, c.then-1) {
			for _, a := range slices.Concat(small, great, []int{c.first, 7, 1024, 1025}) {
				refused(t, c.name, a, b, api.ErrArg)(c.ask(a, b))
			}
		}
		for _, a := range great {
			for _, b := range append(great, c.then, 1, 2, 7) {
				refused(t, c.name, a, b, api.ErrLimit)(c.ask(a, b))
			}
			for _, b := range []int{c.first, 2, 7} {
				refused(t, c.name, b, a, api.ErrLimit)(c.ask(b, a))
			}
		}
	}
}

// TestPairsOfNumbers goes through many pairs, whether there is a net by the numbers of its nodes and edges.
func TestPairsOfNumbers(t *testing.T) {
	numbers := []int{1, 2, 3, 4, 5, 6, 7, 12, 16, 31, 32, 33, 47, 48, 49, 55, 56, 63, 64, 65, 96, 128, 256, 341, 342, 438, 439, 511, 512, 513, 614, 615, 767, 768, 769, 1020, 1021, 1022, 1023, 1024, 1025, 2048, 3071, 3072, 3073}
	for _, a := range numbers {
		for _, b := range numbers {
			both(t, "Two", a, b, a+b, a*b)(Two(a, b))
			both(t, "Grid", a, b, a*b, 2*a*b-a-b)(Grid(a, b))
			both(t, "Random", a, b, a, b)(Random(a, b, 9))
		}
	}
}

func both(t *testing.T, name string, a, b, nodes, edges int) func(api.Net, api.Errno) {
	t.Helper()
	if nodes > 1024 || edges > 3072 {
		return refused(t, name, a, b, api.ErrLimit)
	}
	return func(g api.Net, e api.Errno) {
		t.Helper()
		if g.N != nodes || len(g.Edges) != edges || !net.May(g) || e != api.OK {
			t.Errorf("P5: %s at %d, %d: %d nodes, %d edges, %v", name, a, b, g.N, len(g.Edges), e)
		}
	}
}
