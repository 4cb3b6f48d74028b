package block

import (
	"slices"

	"tracery/api"
)

// search is a walk depth first through a net that tells when a block is whole.
type search struct {
	g     api.Net
	rest  [][]int // of each node the half-edges that leave it and were not looked at yet
	place []int   // of each node how many were found ahead of it, -1 if it is not found yet
	low   []int   // of each node found the least place to which an edge leads from it or from below it, but for the one it was found by
	over  []bool  // of each edge whether the walk went over it
	found int
	trail []int           // the half-edges by which the walk went down to where it is
	open  []int           // the edges gone over whose block is not whole yet
	shut  func(first int) // closes the block that is whole, whose first open edge is this one
}

// parted: of each edge a number of the block that it is in, and how many blocks there are.
// The numbers are in the order in which the blocks become whole.
func parted(g api.Net) ([]int, int) {
	of, count := make([]int, len(g.Edges)), 0
	s := begin(g)
	// The edges of a block that becomes whole are the last ones that are open, from the first of them on:
	// blocks that were begun behind it are whole already.
	s.shut = func(first int) {
		for e := -1; e != first; {
			e = s.open[len(s.open)-1]
			s.open = s.open[:len(s.open)-1]
			of[e] = count
		}
		count++
	}
	for v := range g.N {
		if s.place[v] < 0 {
			s.through(v)
		}
	}
	return of, count
}

func begin(g api.Net) *search {
	return &search{
		g:     g,
		rest:  outs(g),
		place: slices.Repeat([]int{-1}, g.N),
		low:   make([]int, g.N),
		over:  make([]bool, len(g.Edges)),
	}
}

func (s *search) find(v int) {
	s.place[v], s.low[v] = s.found, s.found
	s.found++
}

// through goes over all edges of the component of v, and comes back to v.
func (s *search) through(v int) {
	s.find(v)
	for {
		switch {
		case len(s.rest[v]) > 0:
			h := s.rest[v][0]
			s.rest[v] = s.rest[v][1:]
			if !s.over[h/2] {
				v = s.goOver(h)
			}
		case len(s.trail) > 0:
			v = s.goBack()
		default:
			return
		}
	}
}

// goOver: the walk goes over the edge of h, for the first time; and where it is then.
// A node that is found already is above: had the walk left it for good, it would have gone over the edge from there.
func (s *search) goOver(h int) int {
	from, to := leaves(s.g, h), comesTo(s.g, h)
	s.over[h/2] = true
	s.open = append(s.open, h/2)
	switch {
	case from == to:
		s.shut(h / 2)
		return from
	case s.place[to] >= 0:
		s.low[from] = min(s.low[from], s.place[to])
		return from
	}
	s.find(to)
	s.trail = append(s.trail, h)
	return to
}

// goBack: the walk goes back up the last half-edge of its trail; and where it is then.
// If nothing leads from below to above that node, no cycle goes on from there over the edge: its block is whole.
func (s *search) goBack() int {
	h := s.trail[len(s.trail)-1]
	s.trail = s.trail[:len(s.trail)-1]
	up, down := leaves(s.g, h), comesTo(s.g, h)
	s.low[up] = min(s.low[up], s.low[down])
	if s.low[down] >= s.place[up] {
		s.shut(h / 2)
	}
	return up
}
