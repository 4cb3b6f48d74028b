package sepa

import (
	"tracery/api"
	"tracery/block"
	"tracery/walk"
)

// onefold, twofold, threefold: whether g, which has no loop, is connected so; threefold is asked only of nets that are twofold.

func onefold(g api.Net) bool {
	_, components, _ := walk.Parts(g)
	return g.N > 1 && components == 1
}

func twofold(g api.Net) bool {
	whole, _ := block.Biconnected(g)
	return g.N > 2 && whole
}

func threefold(g api.Net) bool {
	for u := range g.N {
		if len(cutsWithout(g, u)) > 0 {
			return false
		}
	}
	return g.N > 3
}

// separating: the pairs without which g, which is biconnected, is not connected, the lesser node first, in order.
func separating(g api.Net) [][2]int {
	var pairs [][2]int
	for u := range g.N {
		for _, v := range cutsWithout(g, u) {
			if v > u {
				pairs = append(pairs, [2]int{u, v})
			}
		}
	}
	return pairs
}

// cutsWithout: the cut nodes of g when u is taken out, rising: with each of them u separates a net that is biconnected.
func cutsWithout(g api.Net, u int) []int {
	rest, _ := block.Blocks(without(g, u))
	return rest.Cuts
}

// without: g without the edges of some nodes. Those stay as nodes that have none, so that the others keep their numbers.
func without(g api.Net, nodes ...int) api.Net {
	rest := api.Net{N: g.N, Edges: make([][2]int, 0, len(g.Edges))}
	for _, ends := range g.Edges {
		if !touches(ends, nodes) {
			rest.Edges = append(rest.Edges, ends)
		}
	}
	return rest
}

func touches(ends [2]int, nodes []int) bool {
	for _, v := range nodes {
		if ends[0] == v || ends[1] == v {
			return true
		}
	}
	return false
}
