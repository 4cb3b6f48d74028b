package planar

import (
	"slices"

	"tracery/api"
	"tracery/kura"
	"tracery/net"
)

// narrowed: of edges of g, rising, that hold an obstruction, those of one.
// Chains are left out, many at once at first, then fewer, as long as what is left holds one. What is left has fewer and longer chains each time.
// In the end no chain can be spared, and that is so just of an obstruction.
func narrowed(g api.Net, edges []int) []int {
	size := len(edges)
	for parts := 2; size > 1 && !isObstruction(g, edges); parts *= 2 {
		list := chains(g, edges)
		size = max(len(list)/parts, 1)
		edges = thinned(g, edges, list, size)
	}
	return edges
}

// thinned: edges without those of the chains that can be spared, so many chains at once.
// Those that were needed once are needed from then on, for there are only fewer edges later.
func thinned(g api.Net, edges []int, list [][]int, size int) []int {
	for some := range slices.Chunk(list, size) {
		rest := without(edges, slices.Concat(some...), len(g.Edges))
		if len(rest) == len(edges) {
			continue
		}
		if left := blamed(g, rest); left != nil {
			edges = left
		}
	}
	return edges
}

// without: edges, all below count, but for those that are spared.
func without(edges, spared []int, count int) []int {
	isSpared := make([]bool, count)
	for _, e := range spared {
		isSpared[e] = true
	}
	return slices.DeleteFunc(slices.Clone(edges), func(e int) bool { return isSpared[e] })
}

// blamed: those of the edges among which a search found an obstruction, rising; none, if they are planar.
func blamed(g api.Net, edges []int) []int {
	sub, _ := net.Sub(g, edges)
	_, bad := searched(sub)
	return renamed(bad, edges)
}

func isObstruction(g api.Net, edges []int) bool {
	kind, _ := kura.Kind(g, edges)
	return kind != 0
}
