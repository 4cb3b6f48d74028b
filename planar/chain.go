package planar

import (
	"tracery/api"
	"tracery/net"
	"tracery/walk"
)

// chains: the edges, together such as follow each other through nodes of the degree 2: where one of them can be spared, all can.
// Those that are not whole in a tree come first: without them all still hangs together, so that many can be spared at once.
func chains(g api.Net, edges []int) [][]int {
	sub, _ := net.Sub(g, edges)
	out, isTree := outs(sub), treeEdges(sub)
	isIn := make([]bool, len(edges))
	var beside, within [][]int
	for h := range 2 * len(edges) {
		if isIn[h/2] || len(out[sub.Edges[h/2][h%2]]) == 2 {
			continue
		}
		chain, whole := followed(sub, out, h), true
		for _, i := range chain {
			isIn[i] = true
			whole = whole && isTree[i]
		}
		if whole {
			within = append(within, renamed(chain, edges))
		} else {
			beside = append(beside, renamed(chain, edges))
		}
	}
	return append(beside, within...)
}

// followed: the edges from h on, through nodes of the degree 2. It leaves a node of another degree, so that it does not come round.
func followed(g api.Net, out [][]int, h int) []int {
	chain := []int{h / 2}
	for at := out[g.Edges[h/2][1-h%2]]; len(at) == 2; at = out[g.Edges[h/2][1-h%2]] {
		h = at[0] + at[1] - (h ^ 1)
		chain = append(chain, h/2)
	}
	return chain
}

// treeEdges: of each edge of g, which hangs together, whether it is one of a tree of short ways.
func treeEdges(g api.Net) []bool {
	tour, _ := walk.Breadth(g, g.Edges[0][0])
	isTree := make([]bool, len(g.Edges))
	for _, h := range tour.By {
		if h != none {
			isTree[h/2] = true
		}
	}
	return isTree
}
