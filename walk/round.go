package walk

import (
	"slices"

	"tracery/api"
	"tracery/net"
)

// Sides: 0 or 1 for each node, such that each edge has unlike ends; or else a closed walk of odd length.
func Sides(g api.Net) ([]int, []int, api.Errno) {
	if !net.May(g) {
		return nil, nil, api.ErrArg
	}
	tour := everywhere(g)
	side := make([]int, g.N)
	for v, far := range tour.Far {
		side[v] = far % 2
	}
	for e, ends := range g.Edges {
		if side[ends[0]] == side[ends[1]] {
			return nil, closed(g, tour, 2*e), api.OK
		}
	}
	return side, nil, api.OK
}

// Ring: a cycle of the least length.
// Breadth first from a node of a shortest cycle, one of its edges is beside the tree, and closes with it a cycle that is as short.
// So the shortest one of those that are closed, from all nodes, is the least.
func Ring(g api.Net) ([]int, api.Errno) {
	if !net.May(g) {
		return nil, api.ErrArg
	}
	out := outs(g)
	var ring []int
	for s := range g.N {
		tour := unfound(g.N)
		spread(g, out, &tour, s)
		e, length := nearest(g, tour)
		if e >= 0 && (ring == nil || length < len(ring)) {
			ring = closed(g, tour, 2*e)
		}
	}
	if ring == nil {
		return nil, api.ErrNone
	}
	return ring, api.OK
}

// nearest: of the edges beside the tour's tree the one by which the way from its beginning and back is the shortest,
// and how long that way is; -1 if there is no such edge.
func nearest(g api.Net, tour api.Tour) (int, int) {
	edge, least := -1, 0
	for e, ends := range g.Edges {
		a, b := ends[0], ends[1]
		if tour.Far[a] < 0 || tour.By[b] == 2*e || tour.By[a] == 2*e+1 {
			continue
		}
		if length := tour.Far[a] + tour.Far[b] + 1; edge < 0 || length < least {
			edge, least = e, length
		}
	}
	return edge, least
}

// closed: the cycle that h, of an edge beside the tour's tree, closes with it: h, up the tree, and down again to where h leaves.
func closed(g api.Net, tour api.Tour, h int) []int {
	cycle := []int{h}
	var down []int
	end, start := comesTo(g, h), comesTo(g, h^1)
	for end != start {
		if tour.Far[end] >= tour.Far[start] {
			up := tour.By[end] ^ 1
			cycle = append(cycle, up)
			end = comesTo(g, up)
		} else {
			by := tour.By[start]
			down = append(down, by)
			start = comesTo(g, by^1)
		}
	}
	slices.Reverse(down)
	return append(cycle, down...)
}
