package net

import (
	"math"
	"math/rand"
	"slices"
	"testing"

	"tracery/api"
)

// of is a net of the ends u, v, u, v ...
func of(n int, ends ...int) api.Net {
	g := api.Net{N: n}
	for i := 0; i+1 < len(ends); i += 2 {
		g.Edges = append(g.Edges, [2]int{ends[i], ends[i+1]})
	}
	return g
}

// example is the net of the chapter's examples.
func example() api.Net { return of(3, 0, 1, 1, 0, 2, 2, 1, 2) }

// sized is a net with so many nodes and edges, all kinds of edges among them.
func sized(nodes, edges int) api.Net {
	g := api.Net{N: nodes, Edges: make([][2]int, edges)}
	for e := range g.Edges {
		g.Edges[e] = [2]int{e % nodes, (e * e) % nodes}
	}
	return g
}

// strange are numbers that are no node and no edge of a small net.
func strange() []int {
	return []int{-1, -2, -1 << 32, 1 << 32, 3072, math.MinInt, math.MinInt + 1, math.MaxInt, math.MaxInt - 1}
}

// wrong are nets that may not be, each by one fault.
func wrong() []api.Net {
	list := []api.Net{
		{N: -1}, {N: math.MinInt}, {N: 1025}, {N: math.MaxInt}, {N: 1 << 32},
		of(0, 0, 0), of(-1, 0, 0), of(1025, 0, 1), of(1, 0, 1), of(1, 1, 0), of(3, 0, 1, 1, 2, 3, 3),
		sized(1, 3073), sized(1024, 3073), sized(4, 5000),
	}
	for _, x := range strange() {
		list = append(list, of(4, 0, x), of(4, x, 0), of(4, x, x), of(4, 0, 1, 2, 3, 1, x), of(4, x, 1, 2, 3))
	}
	return list
}

// some is a random net, small enough for many loops and parallel edges.
func some(r *rand.Rand) api.Net {
	g := api.Net{N: r.Intn(7)}
	if g.N == 0 {
		return g
	}
	for range r.Intn(12) {
		g.Edges = append(g.Edges, [2]int{r.Intn(g.N), r.Intn(g.N)})
	}
	return g
}

// parallel is the chapter's word: the same two ends, either way about.
func parallel(a, b [2]int) bool { return a == b || a == [2]int{b[1], b[0]} }

// repeatedAt: whether an edge with a lesser number is parallel to e.
func repeatedAt(g api.Net, e int) bool {
	return slices.ContainsFunc(g.Edges[:e], func(ends [2]int) bool { return parallel(ends, g.Edges[e]) })
}

func TestMay(t *testing.T) {
	for _, g := range []api.Net{{}, {N: 0, Edges: [][2]int{}}, of(1), of(1, 0, 0), example(), of(1024), of(1024, 1023, 1023, 0, 1023), sized(1024, 3072), sized(1, 3072)} {
		if !May(g) {
			t.Errorf("P3.1: May of N %d with %d edges", g.N, len(g.Edges))
		}
	}
	for i, g := range wrong() {
		if May(g) {
			t.Errorf("P3.1: May of wrong net %d: N %d with %d edges", i, g.N, len(g.Edges))
		}
	}
}

func TestSame(t *testing.T) {
	for _, c := range []struct {
		a, b api.Net
		want bool
	}{
		{example(), example(), true},
		{api.Net{}, api.Net{Edges: [][2]int{}}, true},
		{of(2), of(3), false},
		{of(2, 0, 1), of(3, 0, 1), false},
		{of(2, 0, 1), of(2, 1, 0), false},
		{of(2, 0, 1), of(2), false},
		{of(2, 0, 1), of(2, 0, 1, 0, 1), false},
		{of(3, 0, 1, 1, 2), of(3, 1, 2, 0, 1), false},
		{of(3, 0, 1, 1, 2), of(3, 0, 1, 0, 2), false},
		{sized(1024, 3072), sized(1024, 3072), true},
		// it asks nothing of the nets
		{of(-1, 9, math.MinInt), of(-1, 9, math.MinInt), true},
		{of(math.MaxInt, 9, math.MinInt), of(math.MaxInt, 9, math.MaxInt), false},
		{sized(1, 3073), sized(1, 3073), true},
		{sized(1, 3073), sized(1, 3074), false},
	} {
		if Same(c.a, c.b) != c.want || Same(c.b, c.a) != c.want {
			t.Errorf("P3.1: Same(%v, %v) is not %v", c.a, c.b, c.want)
		}
	}
}

func TestOut(t *testing.T) {
	for _, c := range []struct {
		g    api.Net
		v    int
		want []int
	}{
		{example(), 2, []int{4, 5, 7}},
		{example(), 0, []int{0, 3}},
		{example(), 1, []int{1, 2, 6}},
		{of(2, 1, 1), 0, nil},
		{of(1, 0, 0, 0, 0), 0, []int{0, 1, 2, 3}},
		{of(1024, 5, 1023), 1023, []int{1}},
	} {
		if l, e := Out(c.g, c.v); !slices.Equal(l, c.want) || e != api.OK {
			t.Errorf("P3.1: Out(%v, %d): %v, %v", c.g, c.v, l, e)
		}
	}
	if l, e := Out(sized(1, 3072), 0); len(l) != 6144 || !slices.IsSorted(l) || l[0] != 0 || l[6143] != 6143 || e != api.OK {
		t.Errorf("P3.1: Out of 3,072 loops: %d, %v", len(l), e)
	}
}

func TestOutRefuses(t *testing.T) {
	for _, v := range append(strange(), 3, 4) {
		if l, e := Out(example(), v); len(l) != 0 || e != api.ErrBounds {
			t.Errorf("P3.1: Out(g, %d): %v, %v", v, l, e)
		}
	}
	if l, e := Out(api.Net{}, 0); len(l) != 0 || e != api.ErrBounds {
		t.Errorf("P3.1: Out of no node: %v, %v", l, e)
	}
	if l, e := Out(sized(1024, 3072), 1024); len(l) != 0 || e != api.ErrBounds {
		t.Errorf("P3.1: Out(g, 1024): %v, %v", l, e)
	}
}

func TestDegrees(t *testing.T) {
	for _, c := range []struct {
		g    api.Net
		want []int
	}{
		{example(), []int{2, 3, 3}},
		{api.Net{}, nil},
		{of(2), []int{0, 0}},
		{of(3, 1, 1), []int{0, 2, 0}},
		{sized(1, 3072), []int{6144}},
	} {
		if l, e := Degrees(c.g); !slices.Equal(l, c.want) || e != api.OK {
			t.Errorf("P3.1: Degrees(%v): %v, %v", c.g, l, e)
		}
	}
}

func TestLook(t *testing.T) {
	for _, c := range []struct {
		g    api.Net
		want api.NetLook
	}{
		{example(), api.NetLook{Loops: 1, Parallel: 1, Least: 2, Greatest: 3}},
		{api.Net{}, api.NetLook{Simple: true}},
		{of(5), api.NetLook{Simple: true}},
		{of(3, 0, 1), api.NetLook{Greatest: 1, Simple: true}},
		{of(3, 0, 1, 1, 2, 2, 0), api.NetLook{Least: 2, Greatest: 2, Simple: true}},
		{of(1, 0, 0), api.NetLook{Loops: 1, Least: 2, Greatest: 2}},
		{of(1, 0, 0, 0, 0, 0, 0), api.NetLook{Loops: 3, Parallel: 2, Least: 6, Greatest: 6}},
		{of(2, 0, 0, 1, 1), api.NetLook{Loops: 2, Least: 2, Greatest: 2}},
		{of(2, 0, 1, 0, 1), api.NetLook{Parallel: 1, Least: 2, Greatest: 2}},
		{of(2, 0, 1, 1, 0, 0, 1), api.NetLook{Parallel: 2, Least: 3, Greatest: 3}},
		{of(1024, 0, 1023), api.NetLook{Greatest: 1, Simple: true}},
		{sized(1, 3072), api.NetLook{Loops: 3072, Parallel: 3071, Least: 6144, Greatest: 6144}},
	} {
		if l, e := Look(c.g); l != c.want || e != api.OK {
			t.Errorf("P3.1: Look(%v): %v, %v", c.g, l, e)
		}
	}
}

// TestLooksByTheWords holds Out, Degrees and Look of many nets against what the chapter's words say, edge by edge.
func TestLooksByTheWords(t *testing.T) {
	r := rand.New(rand.NewSource(1))
	for range 3000 {
		g := some(r)
		degrees, _ := Degrees(g)
		look, _ := Look(g)
		want := api.NetLook{}
		for e, ends := range g.Edges {
			if ends[0] == ends[1] {
				want.Loops++
			}
			if repeatedAt(g, e) {
				want.Parallel++
			}
		}
		want.Simple = want.Loops+want.Parallel == 0
		sum := 0
		for v := range g.N {
			out, e := Out(g, v)
			for _, h := range out {
				if g.Edges[h/2][h%2] != v {
					t.Fatalf("P3.1: Out(%v, %d): %v", g, v, out)
				}
			}
			if e != api.OK || !slices.IsSorted(out) || len(slices.Compact(out)) != degrees[v] {
				t.Fatalf("P3.1: Out(%v, %d): %v, %v, of the degrees %v", g, v, out, e, degrees)
			}
			sum += degrees[v]
			if v == 0 {
				want.Least = degrees[v]
			}
			want.Least, want.Greatest = min(want.Least, degrees[v]), max(want.Greatest, degrees[v])
		}
		if len(degrees) != g.N || sum != 2*len(g.Edges) {
			t.Fatalf("P3.1: Degrees(%v): %v", g, degrees)
		}
		if look != want {
			t.Fatalf("P3.1: Look(%v): %v, not %v", g, look, want)
		}
	}
}
