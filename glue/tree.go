package glue

import (
	"cmp"
	"slices"

	"tracery/api"
)

// hung is a tree of parts as it hangs on one of them.
type hung struct {
	ps    []api.Piece
	below [][]int // of each part those that hang on it, by their least edges
	least []int   // of each part the least real edge that is in it or in what hangs on it
	order []int   // the parts that were gone through, each ahead of what hangs on it
}

// preorder: the parts in the order of the numbers that doc/16 gives them.
func preorder(ps []api.Piece) []int {
	h := &hung{ps: ps, below: make([][]int, len(ps)), least: make([]int, len(ps))}
	first := slices.IndexFunc(ps, hasFirstEdge)
	h.hang(first, none)
	h.goThrough(first)
	return h.order
}

func hasFirstEdge(p api.Piece) bool {
	return slices.ContainsFunc(p.Edges, func(b api.Bond) bool { return b.Edge == 0 })
}

// hang finds what hangs on the part i, away from the part up.
func (h *hung) hang(i, up int) {
	h.least[i] = api.MaxEdges
	for _, b := range h.ps[i].Edges {
		switch b.Twin {
		case none:
			h.least[i] = min(h.least[i], b.Edge)
		case up:
		default:
			h.hang(b.Twin, i)
			h.below[i] = append(h.below[i], b.Twin)
			h.least[i] = min(h.least[i], h.least[b.Twin])
		}
	}
	slices.SortFunc(h.below[i], func(x, y int) int { return cmp.Compare(h.least[x], h.least[y]) })
}

func (h *hung) goThrough(i int) {
	h.order = append(h.order, i)
	for _, k := range h.below[i] {
		h.goThrough(k)
	}
}

// renumbered: the parts in that order, their edges in the order of doc/16.
func renumbered(ps []api.Piece, order []int) []api.Piece {
	number := make([]int, len(ps))
	for n, i := range order {
		number[i] = n
	}
	list := make([]api.Piece, len(ps))
	for n, i := range order {
		edges := slices.Clone(ps[i].Edges)
		for k, b := range edges {
			if b.Twin != none {
				edges[k].Twin = number[b.Twin]
			}
		}
		slices.SortFunc(edges, byWords)
		list[n] = api.Piece{Kind: ps[i].Kind, Nodes: slices.Clone(ps[i].Nodes), Edges: edges}
	}
	return list
}

// byWords: the real edges by number, then the virtual ones by Twin.
func byWords(x, y api.Bond) int {
	return cmp.Or(cmp.Compare(x.Twin, y.Twin), cmp.Compare(x.Edge, y.Edge))
}
