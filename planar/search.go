package planar

import (
	"cmp"
	"slices"

	"tracery/api"
)

// none stands where there is no edge, half-edge or node.
const none = -1

// A search goes through a piece depth first. The edges beside its tree lead back up, to a node above: they are return edges.
// The piece is planar just if each return edge can be put on one side of the tree, left or right, such that of each two edges
// by which the walk goes on from a node the one's return edges that end below the other's highest end are all on one side,
// and the other's that end below the one's are all on the other. (This is known as the left-right test.)
type search struct {
	piece
	out    [][]int // of each node the half-edges by which the walk goes on from it, in the order in which they are gone by
	depth  []int   // of each node how far below the root it is, none ahead of the walk
	by     []int   // of each node the half-edge by which it was found, none of the root
	way    []int   // of each edge the half-edge by which the walk went over it
	low    []int   // of each edge the least depth at which a return edge ends, be it itself or one from below it
	second []int   // the least one but for that
	nest   []int   // of each edge its place in the order of nesting: the higher its return edges end, the farther out they go round
	trial
}

// stuck is what a search gives up with: edges among which there is an obstruction.
type stuck struct{ edges []int }

// settled: a search of p that came to its end; or, if p is not planar, edges of it, rising, that hold an obstruction.
func settled(p piece) (s *search, bad []int) {
	defer func() {
		if what := recover(); what != nil {
			end, own := what.(stuck)
			if !own {
				panic(what)
			}
			s, bad = nil, end.edges
		}
	}()
	s = begin(p)
	s.walk(0, outs(p.net))
	s.arrange()
	s.test(0)
	return s, nil
}

func begin(p piece) *search {
	n, m := p.net.N, len(p.net.Edges)
	s := &search{
		piece:  p,
		out:    make([][]int, n),
		depth:  slices.Repeat([]int{none}, n),
		by:     slices.Repeat([]int{none}, n),
		way:    slices.Repeat([]int{none}, m),
		low:    make([]int, m),
		second: make([]int, m),
		nest:   make([]int, m),
		trial:  untried(n, m),
	}
	s.depth[0] = 0
	return s
}

// outs: of each node the half-edges that leave it.
func outs(g api.Net) [][]int {
	out := make([][]int, g.N)
	for e, ends := range g.Edges {
		for side, v := range ends {
			out[v] = append(out[v], 2*e+side)
		}
	}
	return out
}

// walk goes over all edges at v and below it that were not gone over yet.
func (s *search) walk(v int, out [][]int) {
	for _, h := range out[v] {
		if s.way[h/2] == none {
			s.goOver(h, out)
		}
	}
}

func (s *search) goOver(h int, out [][]int) {
	e, v, w := h/2, s.leaves(h), s.comesTo(h)
	s.way[e] = h
	s.out[v] = append(s.out[v], h)
	s.low[e], s.second[e] = s.depth[v], s.depth[v]
	if s.depth[w] == none {
		s.by[w], s.depth[w] = h, s.depth[v]+1
		s.walk(w, out)
	} else {
		s.low[e] = s.depth[w]
	}
	s.nest[e] = 2 * s.low[e]
	if s.second[e] < s.depth[v] { // with a second way back it goes round one that has none
		s.nest[e]++
	}
	if s.by[v] != none {
		s.takeLows(s.by[v]/2, e)
	}
}

// takeLows: the tree edge up leads back to where e, which goes on from it, leads back.
func (s *search) takeLows(up, e int) {
	switch {
	case s.low[e] < s.low[up]:
		s.second[up] = min(s.low[up], s.second[e])
		s.low[up] = s.low[e]
	case s.low[e] > s.low[up]:
		s.second[up] = min(s.second[up], s.low[e])
	default:
		s.second[up] = min(s.second[up], s.second[e])
	}
}

// arrange puts the half-edges by which nodes are left in the order of nesting.
func (s *search) arrange() {
	for _, list := range s.out {
		slices.SortStableFunc(list, func(a, b int) int { return cmp.Compare(s.nest[a/2], s.nest[b/2]) })
	}
}

// giveUp: the edge e cannot be put beside those that were tried ahead of it at the node that it leaves.
// That hangs on the edges tried from there on, and on the tree path that leads there: what else there is has no part in it.
func (s *search) giveUp(e int) {
	v := s.leaves(s.way[e])
	edges := slices.Clone(s.tried[s.begun[v]:])
	for s.by[v] != none {
		edges = append(edges, s.by[v]/2)
		v = s.leaves(s.by[v])
	}
	slices.Sort(edges)
	panic(stuck{edges})
}

// leaves, comesTo: the nodes that the half-edge h leaves and comes to.

func (s *search) leaves(h int) int { return s.net.Edges[h/2][h%2] }

func (s *search) comesTo(h int) int { return s.net.Edges[h/2][1-h%2] }
