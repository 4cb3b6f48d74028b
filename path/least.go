package path

import (
	"slices"

	"tracery/api"
	"tracery/weigh"
)

// Least: the edges of the least weight that hold each component together, rising, and the sum of their weights.
func Least(g api.Net, w []float64) ([]int, float64, api.Errno) {
	if err := refusal(g, w); err != api.OK {
		return nil, 0, err
	}
	taken := withoutCycle(g, byWeight(w))
	slices.Sort(taken) // the sum may round, so the order is to be that of the numbers
	sum := 0.0
	for _, e := range taken {
		sum = weigh.Add(sum, w[e])
	}
	return taken, sum, api.OK
}

// byWeight: the edges by weight, those of one weight by number.
func byWeight(w []float64) []int {
	edges := make([]int, len(w))
	for e := range edges {
		edges[e] = e
	}
	slices.SortStableFunc(edges, func(a, b int) int {
		switch {
		case weigh.Less(w[a], w[b]):
			return -1
		case weigh.Less(w[b], w[a]):
			return 1
		}
		return 0
	})
	return edges
}

// withoutCycle: of the edges, taken in their order, each that closes no cycle with those ahead.
func withoutCycle(g api.Net, edges []int) []int {
	above := make([]int, g.N)
	for v := range above {
		above[v] = v
	}
	var taken []int
	for _, e := range edges {
		a, b := top(above, g.Edges[e][0]), top(above, g.Edges[e][1])
		if a != b {
			above[a] = b
			taken = append(taken, e)
		}
	}
	return taken
}

// top: the node that stands for all that hang together with v. The way to it is halved, so that it stays short.
func top(above []int, v int) int {
	for above[v] != v {
		above[v] = above[above[v]]
		v = above[v]
	}
	return v
}
