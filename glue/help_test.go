package glue

import (
	"math"
	"math/rand"
	"slices"
	"testing"

	"tracery/api"
	"tracery/maker"
	"tracery/net"
	"tracery/spqr"
)

// of is a net of n nodes, the ends of its edges in a row.
func of(n int, ends ...int) api.Net {
	g := api.Net{N: n}
	for i := 0; i+1 < len(ends); i += 2 {
		g.Edges = append(g.Edges, [2]int{ends[i], ends[i+1]})
	}
	return g
}

// with is g with more edges behind its own.
func with(g api.Net, ends ...int) api.Net {
	return api.Net{N: g.N, Edges: slices.Concat(g.Edges, of(0, ends...).Edges)}
}

// wider is g with nodes more.
func wider(g api.Net, more int) api.Net { return api.Net{N: g.N + more, Edges: slices.Clone(g.Edges)} }

func nums(list ...int) []int { return list }

func edge(a, b, number int) api.Bond { return api.Bond{A: a, B: b, Edge: number, Twin: -1} }

func twin(a, b, part int) api.Bond { return api.Bond{A: a, B: b, Edge: -1, Twin: part} }

// ring, sheaf, rigid are parts; their nodes are the ends of their edges.

func ring(edges ...api.Bond) api.Piece { return piece(api.Ring, edges) }

func sheaf(edges ...api.Bond) api.Piece { return piece(api.Sheaf, edges) }

func rigid(edges ...api.Bond) api.Piece { return piece(api.Rigid, edges) }

func piece(kind int, edges []api.Bond) api.Piece {
	p := api.Piece{Kind: kind, Edges: edges}
	for _, b := range edges {
		p.Nodes = append(p.Nodes, b.A, b.B)
	}
	slices.Sort(p.Nodes)
	p.Nodes = slices.Compact(p.Nodes)
	return p
}

func samePiece(a, b api.Piece) bool {
	return a.Kind == b.Kind && slices.Equal(a.Nodes, b.Nodes) && slices.Equal(a.Edges, b.Edges)
}

func samePieces(a, b []api.Piece) bool { return slices.EqualFunc(a, b, samePiece) }

func copied(ps []api.Piece) []api.Piece {
	list := slices.Clone(ps)
	for i, p := range list {
		list[i].Nodes, list[i].Edges = slices.Clone(p.Nodes), slices.Clone(p.Edges)
	}
	return list
}

// made hands on what a call answers that makes a net.
func made(t *testing.T) func(g api.Net, err api.Errno) api.Net {
	return func(g api.Net, err api.Errno) api.Net {
		t.Helper()
		if err != api.OK {
			t.Fatalf("no net was made: %v", err)
		}
		return g
	}
}

// joined is a net of net.Merge.
func joined(g api.Net, _ []int, err api.Errno) api.Net {
	if err != api.OK {
		panic("no net was made")
	}
	return g
}

// doubled is g with each edge twice, the second time the other way about.
func doubled(g api.Net) api.Net {
	twice := api.Net{N: g.N}
	for _, ends := range g.Edges {
		twice.Edges = append(twice.Edges, ends, [2]int{ends[1], ends[0]})
	}
	return twice
}

// shuffled is g with its nodes and edges in another order, and edges turned about.
func shuffled(t *testing.T, r *rand.Rand, g api.Net) api.Net {
	t.Helper()
	g = made(t)(net.Moved(g, r.Perm(g.N)))
	g = made(t)(net.Sub(g, r.Perm(len(g.Edges))))
	for e, ends := range g.Edges {
		if r.Intn(2) == 0 {
			g.Edges[e] = [2]int{ends[1], ends[0]}
		}
	}
	return g
}

// more is g with so many edges behind its own, any ones.
func more(r *rand.Rand, g api.Net, count int) api.Net {
	g = wider(g, 0)
	for range count {
		g.Edges = append(g.Edges, [2]int{r.Intn(g.N), r.Intn(g.N)})
	}
	return g
}

// some is a net of at most n nodes and m edges, all kinds of edges among them.
func some(r *rand.Rand, n, m int) api.Net {
	if n = r.Intn(n + 1); n == 0 {
		return of(0)
	}
	return more(r, of(n), r.Intn(m+1))
}

// loopless is a net of n nodes and at most m edges, none of them a loop.
func loopless(r *rand.Rand, n, m int) api.Net {
	g := of(n)
	for range r.Intn(m + 1) {
		u := r.Intn(n)
		g = with(g, u, (u+1+r.Intn(n-1))%n)
	}
	return g
}

// eared is a biconnected net: a cycle, and so many rows from node to node, each with up to four nodes of its own.
func eared(t *testing.T, r *rand.Rand, rows int) api.Net {
	t.Helper()
	g := made(t)(maker.Cycle(2 + r.Intn(5)))
	for range rows {
		ends := r.Perm(g.N)
		v := ends[0]
		for range r.Intn(5) {
			g = with(wider(g, 1), v, g.N)
			v = g.N - 1
		}
		g = with(g, v, ends[1])
	}
	return shuffled(t, r, g)
}

// atTwo is both nets with two nodes in common: the ends of an edge of each, any one, which stays or goes.
func atTwo(t *testing.T, r *rand.Rand, a, b api.Net) api.Net {
	t.Helper()
	e, f := r.Intn(len(a.Edges)), r.Intn(len(b.Edges))
	u, v := a.Edges[e][0], a.Edges[e][1]
	x, y := a.N+b.Edges[f][0], a.N+b.Edges[f][1]
	all := made(t)(net.Join(a, b))
	all = joined(net.Merge(all, u, x))
	if y > x {
		y--
	}
	all = joined(net.Merge(all, v, y))
	var stay []int
	for k := range all.Edges {
		if k != e && k != len(a.Edges)+f || r.Intn(2) == 0 {
			stay = append(stay, k)
		}
	}
	return made(t)(net.Sub(all, stay))
}

// kinds are small nets of well-known kinds, all of them biconnected.
func kinds(t *testing.T) []api.Net {
	t.Helper()
	must := made(t)
	list := []api.Net{petersen()}
	for n := 2; n <= 7; n++ {
		list = append(list, must(maker.Cycle(n)), must(maker.Bond(n-1)), must(maker.Complete(n)), must(maker.Wheel(n+1)), must(maker.Prism(n+1)))
		list = append(list, must(maker.Grid(2, n)), must(maker.Grid(n, 3)), must(maker.Two(2, n)), must(maker.Two(n, 3)), must(maker.Stack(n+1, uint64(n))))
	}
	return list
}

func petersen() api.Net {
	return of(10, 0, 1, 1, 2, 2, 3, 3, 4, 4, 0, 0, 5, 1, 6, 2, 7, 3, 8, 4, 9, 5, 7, 7, 9, 9, 6, 6, 8, 8, 5)
}

// strange are numbers that are no node of any net, or none of a small one.
func strange() []int {
	return nums(-1, -2, -1<<32, 1<<32, 1024, 3072, math.MinInt, math.MinInt+1, math.MaxInt, math.MaxInt-1)
}

// parted is the tree of parts of a net.
func parted(t *testing.T, g api.Net) []api.Piece {
	t.Helper()
	ps, err := spqr.Of(g)
	if err != api.OK {
		t.Fatalf("no parts: %v, %v", g, err)
	}
	return ps
}

// chord are the parts of the cycle of 4 with an edge (0, 2) behind.
func chord() []api.Piece {
	return []api.Piece{
		ring(edge(0, 1, 0), edge(1, 2, 1), twin(0, 2, 1)),
		sheaf(edge(0, 2, 4), twin(0, 2, 0), twin(0, 2, 2)),
		ring(edge(2, 3, 2), edge(0, 3, 3), twin(0, 2, 1)),
	}
}

// level is a net whose edges' ends are in order.
func level(g api.Net) api.Net {
	out := api.Net{N: g.N}
	for _, e := range g.Edges {
		out.Edges = append(out.Edges, [2]int{min(e[0], e[1]), max(e[0], e[1])})
	}
	return out
}

// mixed are the same parts with other numbers, their edges in any order.
func mixed(r *rand.Rand, ps []api.Piece) []api.Piece {
	to := r.Perm(len(ps))
	list := make([]api.Piece, len(ps))
	for i, p := range copied(ps) {
		for k, b := range p.Edges {
			if b.Twin != -1 {
				p.Edges[k].Twin = to[b.Twin]
			}
		}
		r.Shuffle(len(p.Edges), func(a, b int) { p.Edges[a], p.Edges[b] = p.Edges[b], p.Edges[a] })
		list[to[i]] = p
	}
	return list
}

// renamed are the parts of a net with its nodes and edges in another order.
func renamed(r *rand.Rand, ps []api.Piece) []api.Piece {
	nodes, edges := 0, 0
	for _, p := range ps {
		for _, b := range p.Edges {
			nodes, edges = max(nodes, b.B+1), max(edges, b.Edge+1)
		}
	}
	to, place := r.Perm(nodes), r.Perm(edges)
	var list []api.Piece
	for _, p := range copied(ps) {
		for k, b := range p.Edges {
			if b.Edge != -1 {
				b.Edge = place[b.Edge]
			}
			p.Edges[k] = bond(to[b.A], to[b.B], b.Edge, b.Twin)
		}
		list = append(list, piece(p.Kind, p.Edges))
	}
	return list
}

func bond(u, v, edge, twin int) api.Bond {
	return api.Bond{A: min(u, v), B: max(u, v), Edge: edge, Twin: twin}
}

// fan is a path whose first node has an edge to each of the others.
func fan(t *testing.T, n int) api.Net {
	t.Helper()
	g := made(t)(maker.Path(n))
	for v := 2; v < n; v++ {
		g = with(g, 0, v)
	}
	return g
}
