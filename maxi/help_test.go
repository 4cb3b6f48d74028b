package maxi

import (
	"math"
	"math/rand"
	"slices"
	"testing"

	"tracery/api"
	"tracery/maker"
	"tracery/net"
)

// of is a net of n nodes, the ends of its edges in a row.
func of(n int, ends ...int) api.Net {
	g := api.Net{N: n}
	for i := 0; i+1 < len(ends); i += 2 {
		g.Edges = append(g.Edges, [2]int{ends[i], ends[i+1]})
	}
	return g
}

// with is g with more edges behind its own.
func with(g api.Net, ends ...int) api.Net {
	return api.Net{N: g.N, Edges: slices.Concat(g.Edges, of(0, ends...).Edges)}
}

// wider is g with nodes more.
func wider(g api.Net, more int) api.Net { return api.Net{N: g.N + more, Edges: slices.Clone(g.Edges)} }

func nums(list ...int) []int { return list }

// upTo are the numbers 0 to n - 1.
func upTo(n int) []int {
	var list []int
	for x := range n {
		list = append(list, x)
	}
	return list
}

// downFrom are the numbers n to 0.
func downFrom(n int) []int {
	list := upTo(n + 1)
	slices.Reverse(list)
	return list
}

// made hands on what a call answers that makes a net.
func made(t *testing.T) func(g api.Net, err api.Errno) api.Net {
	return func(g api.Net, err api.Errno) api.Net {
		t.Helper()
		if err != api.OK {
			t.Fatalf("no net was made: %v", err)
		}
		return g
	}
}

// joined is a net of net.Merge.
func joined(g api.Net, _ []int, err api.Errno) api.Net {
	if err != api.OK {
		panic("no net was made")
	}
	return g
}

// core is K5 or K3,3.
func core(t *testing.T, kind int) api.Net {
	t.Helper()
	if kind == 5 {
		return made(t)(maker.Complete(5))
	}
	return made(t)(maker.Two(3, 3))
}

// petersen is planar without two of its edges, but not without one.
func petersen() api.Net {
	return of(10, 0, 1, 1, 2, 2, 3, 3, 4, 4, 0, 0, 5, 1, 6, 2, 7, 3, 8, 4, 9, 5, 7, 7, 9, 9, 6, 6, 8, 8, 5)
}

// torus is a grid of so many columns and rows with a diagonal in each square, its borders put together.
func torus(columns, rows int) api.Net {
	g := api.Net{N: columns * rows}
	for at := range g.N {
		x, y := at%columns, at/columns
		right, above := (x+1)%columns, (y+1)%rows
		g = with(g, at, y*columns+right, at, above*columns+x, at, above*columns+right)
	}
	return g
}

// split is g with so many edges split, any of them.
func split(t *testing.T, r *rand.Rand, g api.Net, times int) api.Net {
	t.Helper()
	for range times {
		g = made(t)(net.Split(g, r.Intn(len(g.Edges))))
	}
	return g
}

// shuffled is g with its nodes and edges in another order, and edges turned about.
func shuffled(t *testing.T, r *rand.Rand, g api.Net) api.Net {
	t.Helper()
	g = made(t)(net.Moved(g, r.Perm(g.N)))
	g = made(t)(net.Sub(g, r.Perm(len(g.Edges))))
	for e, ends := range g.Edges {
		if r.Intn(2) == 0 {
			g.Edges[e] = [2]int{ends[1], ends[0]}
		}
	}
	return g
}

// more is g with so many edges behind its own, any ones.
func more(r *rand.Rand, g api.Net, count int) api.Net {
	g = wider(g, 0)
	for range count {
		g.Edges = append(g.Edges, [2]int{r.Intn(g.N), r.Intn(g.N)})
	}
	return g
}

// some is a net of at most n nodes and m edges, all kinds of edges among them.
func some(r *rand.Rand, n, m int) api.Net {
	if n = r.Intn(n + 1); n == 0 {
		return of(0)
	}
	return more(r, of(n), r.Intn(m+1))
}

// hung is nets one behind the other, each with a node in common with those ahead, or a bridge between, or nothing.
func hung(t *testing.T, r *rand.Rand, nets ...api.Net) api.Net {
	t.Helper()
	all := nets[0]
	for _, g := range nets[1:] {
		u, v := r.Intn(all.N), all.N+r.Intn(g.N)
		all = made(t)(net.Join(all, g))
		switch r.Intn(3) {
		case 0:
			all = joined(net.Merge(all, u, v))
		case 1:
			all = with(all, u, v)
		}
	}
	return all
}

// strange are numbers that are no node of any net and no edge of a small one.
func strange() []int {
	return nums(-1, -2, -1<<32, 1<<32, 1024, 3072, math.MinInt, math.MinInt+1, math.MaxInt, math.MaxInt-1)
}

// wrong are nets that may not be.
func wrong() []api.Net {
	list := []api.Net{
		{N: -1}, {N: math.MinInt}, {N: 1025}, {N: math.MaxInt}, {N: 1 << 32},
		of(0, 0, 0), of(-1, 0, 0), of(1025, 0, 1), of(1, 0, 1), of(1, 1, 0), of(3, 0, 1, 1, 2, 3, 3),
		{N: 1, Edges: make([][2]int, 3073)}, {N: 1024, Edges: make([][2]int, 5000)},
	}
	for _, x := range strange() {
		list = append(list, of(4, 0, x), of(4, x, 0), of(4, x, x), of(4, 0, 1, 2, 3, 1, x), of(4, x, 1, 2, 3))
	}
	return list
}

func sameLists(a, b [][]int) bool { return slices.EqualFunc(a, b, slices.Equal[[]int]) }
