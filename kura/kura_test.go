package kura

import (
	"math"
	"math/rand"
	"slices"
	"testing"

	"tracery/api"
	"tracery/maker"
	"tracery/net"
)

// of is a net of n nodes, the ends of its edges in a row.
func of(n int, ends ...int) api.Net {
	g := api.Net{N: n}
	for i := 0; i+1 < len(ends); i += 2 {
		g.Edges = append(g.Edges, [2]int{ends[i], ends[i+1]})
	}
	return g
}

// with is g with more edges behind its own.
func with(g api.Net, ends ...int) api.Net {
	return api.Net{N: g.N, Edges: slices.Concat(g.Edges, of(0, ends...).Edges)}
}

// wider is g with nodes more.
func wider(g api.Net, more int) api.Net { return api.Net{N: g.N + more, Edges: slices.Clone(g.Edges)} }

func nums(list ...int) []int { return list }

// all is all edges of a net.
func all(g api.Net) []int {
	list := make([]int, len(g.Edges))
	for e := range list {
		list[e] = e
	}
	return list
}

// without is a list without what stands at a place.
func without(list []int, at int) []int { return slices.Delete(slices.Clone(list), at, at+1) }

// made hands on what a call answers that makes a net.
func made(t *testing.T) func(g api.Net, err api.Errno) api.Net {
	return func(g api.Net, err api.Errno) api.Net {
		t.Helper()
		if err != api.OK {
			t.Fatalf("no net was made: %v", err)
		}
		return g
	}
}

// core is K5 or K3,3.
func core(t *testing.T, kind int) api.Net {
	t.Helper()
	if kind == 5 {
		return made(t)(maker.Complete(5))
	}
	return made(t)(maker.Two(3, 3))
}

// split is g with edges split, one after the other.
func split(t *testing.T, g api.Net, edges ...int) api.Net {
	t.Helper()
	for _, e := range edges {
		g = made(t)(net.Split(g, e))
	}
	return g
}

// turned is g with some of its edges turned about.
func turned(r *rand.Rand, g api.Net) api.Net {
	g = wider(g, 0)
	for e, ends := range g.Edges {
		if r.Intn(2) == 0 {
			g.Edges[e] = [2]int{ends[1], ends[0]}
		}
	}
	return g
}

// hidden is g among other nodes and edges, all in any order and direction, and a list of the edges that were g's, in any order.
func hidden(t *testing.T, r *rand.Rand, g api.Net, nodes, edges int) (api.Net, []int) {
	t.Helper()
	full := wider(g, nodes)
	for range edges {
		full.Edges = append(full.Edges, [2]int{r.Intn(full.N), r.Intn(full.N)})
	}
	full = turned(r, made(t)(net.Moved(full, r.Perm(full.N))))
	order := r.Perm(len(full.Edges))
	full = made(t)(net.Sub(full, order))
	var list []int
	for i, e := range order {
		if e < len(g.Edges) {
			list = append(list, i)
		}
	}
	r.Shuffle(len(list), func(i, k int) { list[i], list[k] = list[k], list[i] })
	return full, list
}

// strange are numbers that are no edge of any net.
func strange() []int {
	return nums(-1, -2, -1<<32, 1<<32, 3072, math.MinInt, math.MinInt+1, math.MaxInt, math.MaxInt-1)
}

// wrong are nets that may not be.
func wrong() []api.Net {
	list := []api.Net{
		{N: -1}, {N: math.MinInt}, {N: 1025}, {N: math.MaxInt}, {N: 1 << 32},
		of(0, 0, 0), of(-1, 0, 0), of(1025, 0, 1), of(1, 0, 1), of(1, 1, 0), of(3, 0, 1, 1, 2, 3, 3),
		{N: 1, Edges: make([][2]int, 3073)}, {N: 1024, Edges: make([][2]int, 5000)},
	}
	for _, x := range strange() {
		list = append(list, of(4, 0, x), of(4, x, 0), of(4, x, x), of(4, 0, 1, 2, 3, 1, x), of(4, x, 1, 2, 3))
	}
	return list
}

// checkRefused: each call answers that error and nothing else.
func checkRefused(t *testing.T, name string, g api.Net, edges []int, want api.Errno) {
	t.Helper()
	for _, c := range calls() {
		if got := c.ask(g, edges); got.err != want || !got.nothing() {
			t.Errorf("P12: %s of %s: %v, not %v", c.name, name, got, want)
		}
	}
}

func TestExamples(t *testing.T) {
	must := made(t)
	for _, row := range []struct {
		g    api.Net
		want int
	}{{core(t, 5), 5}, {core(t, 33), 33}, {must(maker.Complete(4)), 0}} {
		if kind, err := Kind(row.g, all(row.g)); kind != row.want || err != api.OK {
			t.Errorf("P12.1: Kind(%v): %d, %v", row.g, kind, err)
		}
	}
	six := must(maker.Complete(6))
	var inner []int
	for e, ends := range six.Edges {
		if max(ends[0], ends[1]) < 5 {
			inner = append(inner, e)
		}
	}
	if kind, err := Kind(six, inner); kind != 5 || err != api.OK {
		t.Errorf("P12.1: Kind(Complete(6), %v): %d, %v", inner, kind, err)
	}
	if branch, err := Branch(core(t, 33), all(core(t, 33))); !slices.Equal(branch, nums(0, 1, 2, 3, 4, 5)) || err != api.OK {
		t.Errorf("P12.2: Branch(Two(3, 3)): %v, %v", branch, err)
	}
}

// TestWrongNets: ErrArg counts ahead of whatever else is wrong.
func TestWrongNets(t *testing.T) {
	for _, g := range wrong() {
		for _, edges := range [][]int{nil, {}, {0}, {-1}, {0, 0}, {0, 0, 9999}, {math.MaxInt, 1, 1}} {
			checkRefused(t, "a net that may not be", g, edges, api.ErrArg)
		}
	}
}

// TestWrongEdges: the first in the list counts, be it no edge or one that stands twice.
func TestWrongEdges(t *testing.T) {
	for _, kind := range nums(5, 33) {
		g := core(t, kind)
		full := all(g)
		m := len(g.Edges)
		for _, x := range append(strange(), m, m+1) {
			for _, edges := range [][]int{{x}, {x, x}, {x, 1, 1}, {0, x, 0}, {0, x, x}, append(slices.Clone(full), x), append(nums(x), full...), append(slices.Clone(full), x, 0)} {
				checkRefused(t, "no such edge", g, edges, api.ErrBounds)
			}
			for _, edges := range [][]int{{1, 1, x}, {0, 0, 0, x}, {2, 1, 2, x, x}, append(slices.Clone(full), 0, x)} {
				checkRefused(t, "one twice, then no such edge", g, edges, api.ErrExists)
			}
		}
		for e := range g.Edges {
			checkRefused(t, "one twice, among all", g, append(slices.Clone(full), e), api.ErrExists)
			checkRefused(t, "one twice, alone", g, nums(e, e), api.ErrExists)
		}
		checkRefused(t, "all twice", g, slices.Repeat(full, 2), api.ErrExists)
		checkRefused(t, "a long list", g, make([]int, 1<<20), api.ErrExists)
	}
	checkRefused(t, "a net without edges", of(0), nums(0), api.ErrBounds)
	checkRefused(t, "a net without edges", of(1024), nums(0, 0), api.ErrBounds)
}

// TestNone: edges that form neither, many of them nearly one. Kind is 0 there, and there is nothing to be told.
func TestNone(t *testing.T) {
	must := made(t)
	k5, k33 := core(t, 5), core(t, 33)
	for _, row := range []struct {
		name string
		g    api.Net
	}{
		{"no node", of(0)},
		{"no edge", of(1024)},
		{"an edge", of(2, 0, 1)},
		{"a loop", of(1, 0, 0)},
		{"parallel edges", must(maker.Bond(3))},
		{"a cycle", must(maker.Cycle(9))},
		{"Complete(4)", must(maker.Complete(4))},
		{"Complete(6)", must(maker.Complete(6))},
		{"Two(3, 4)", must(maker.Two(3, 4))},
		{"Two(2, 3)", must(maker.Two(2, 3))},
		{"a wheel, five of degree 3 and one of degree 5", must(maker.Wheel(5))},
		{"a prism", must(maker.Prism(3))},
		{"a prism, split", split(t, must(maker.Prism(3)), 0, 8, 0, 3)},
		{"ten nodes of degree 3", must(maker.Prism(5))},
		{"K5 twice", must(net.Join(k5, k5))},
		{"K3,3 twice", must(net.Join(k33, k33))},
		{"K5 and K3,3", must(net.Join(k5, k33))},
		{"K5 with a loop at a branch node", with(k5, 0, 0)},
		{"K5 with a loop on a path", with(split(t, k5, 0), 5, 5)},
		{"K5 with a loop apart", with(wider(k5, 1), 5, 5)},
		{"K3,3 with a loop apart", with(wider(k33, 1), 6, 6)},
		{"K5 with a cycle apart", must(net.Join(k5, must(maker.Cycle(4))))},
		{"K3,3 with a cycle apart", must(net.Join(must(maker.Cycle(2)), k33))},
		{"K5 with an edge apart", with(wider(k5, 2), 5, 6)},
		{"K3,3 with an edge apart", with(wider(k33, 2), 6, 7)},
		{"K5 with an edge that hangs there", with(wider(k5, 1), 4, 5)},
		{"K5 with a parallel edge", with(k5, 1, 0)},
		{"K3,3 with a parallel edge", with(k33, 5, 0)},
		{"K5 whose paths share a node", merged(net.Merge(split(t, k5, 0, 9), 5, 6))},
		{"K3,3 whose paths share a node", merged(net.Merge(split(t, k33, 0, 8), 6, 7))},
		{"five of degree 4, two and two joined twice", of(5, 0, 1, 1, 2, 2, 3, 3, 4, 4, 0, 0, 1, 1, 2, 2, 3, 3, 4, 4, 0)},
		{"five of degree 4, two joined twice, two not", of(5, 0, 1, 0, 1, 0, 2, 0, 3, 1, 2, 1, 4, 2, 3, 2, 4, 3, 4, 3, 4)},
		{"five of degree 4, a path back to its own node", of(6, 0, 5, 5, 0, 0, 1, 0, 2, 1, 3, 1, 4, 1, 3, 2, 3, 2, 4, 2, 4, 3, 4)},
		{"five of degree 4, a loop at a node", of(5, 0, 0, 0, 1, 0, 2, 1, 3, 1, 4, 1, 3, 2, 3, 2, 4, 2, 4, 3, 4)},
		{"five of degree 4, each with two loops", of(5, 0, 0, 0, 0, 1, 1, 1, 1, 2, 2, 2, 2, 3, 3, 3, 3, 4, 4, 4, 4)},
		{"six of degree 3, of which two joined twice", of(6, 0, 3, 0, 3, 0, 4, 1, 3, 1, 4, 1, 5, 2, 4, 2, 5, 2, 5)},
		{"six of degree 3, a path back to its own node", of(7, 0, 6, 6, 0, 0, 3, 1, 3, 1, 4, 1, 5, 2, 3, 2, 4, 2, 5, 4, 5)},
		{"six of degree 3, a loop at the least", of(6, 0, 0, 0, 3, 1, 3, 1, 4, 1, 5, 2, 3, 2, 4, 2, 5, 4, 5)},
		{"six of degree 3, bonds of two", of(6, 0, 1, 0, 1, 0, 1, 2, 3, 2, 3, 2, 3, 4, 5, 4, 5, 4, 5)},
		{"six of degree 3, four each with each and a rest", with(must(net.Join(must(maker.Complete(4)), of(2, 0, 1))), 4, 4, 5, 5)},
		{"six of degree 4", of(6, 0, 1, 0, 2, 0, 3, 0, 4, 1, 2, 2, 3, 3, 4, 4, 1, 5, 1, 5, 2, 5, 3, 5, 4)},
		{"four of degree 4", of(4, 0, 1, 0, 1, 1, 2, 1, 2, 2, 3, 2, 3, 3, 0, 3, 0)},
		{"four of degree 3", split(t, must(maker.Complete(4)), 0, 1, 2)},
		{"five of degree 4 and two of degree 3", with(split(t, k5, 0, 9), 5, 6)},
		{"six of degree 3 and one of degree 4", with(wider(k33, 1), 6, 6, 6, 6)},
		{"six of degree 3 and one of degree 6", with(wider(k33, 1), 6, 6, 6, 6, 6, 6)},
		{"as great as a net may be", api.Net{N: 1, Edges: make([][2]int, 3072)}},
		{"many loops, many nodes", api.Net{N: 1024, Edges: make([][2]int, 3072)}},
	} {
		checkFigure(t, row.name, row.g, all(row.g), 0)
		checkFigure(t, row.name, wider(row.g, 0), nil, 0)
		if row.g.N < 8 && kindByWords(row.g, all(row.g)) != 0 {
			t.Errorf("the words say otherwise of %s", row.name)
		}
	}
}

// merged is a net of net.Merge.
func merged(g api.Net, _ []int, err api.Errno) api.Net {
	if err != api.OK {
		panic("no net was made")
	}
	return g
}
