package judge

import (
	"slices"

	"tracery/api"
	"tracery/geom"
	"tracery/rot"
)

// clockwise: of each node the half-edges from straight up on, no two of which leave in one direction.
// They are held against each other two by two, as more of them may leave a node than geom.Around takes points.
func clockwise(g api.Net, p api.Plot) api.Rot {
	r, _ := rot.First(g)
	for v, list := range r {
		slices.SortFunc(list, func(h, k int) int {
			order, _ := geom.Around(p.At[v], heading(p, h), heading(p, k))
			return order[0] - order[1]
		})
	}
	return r
}

// heading: the point at which the half-edge's first segment ends.
func heading(p api.Plot, h int) api.Point {
	line := p.Lines[h/2]
	if h%2 == 0 {
		return line[1]
	}
	return line[len(line)-2]
}
