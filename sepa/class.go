package sepa

import (
	"cmp"
	"slices"

	"tracery/api"
	"tracery/walk"
)

// alone is what an edge is joined by that no path joins with another one.
const alone = -1

// classes: the classes of u and v. An edge that comes first in its class is the least there:
// so they are in the order of their least edges, and each rises.
func classes(g api.Net, u, v int) [][]int {
	part, count, _ := walk.Parts(without(g, u, v))
	place := slices.Repeat([]int{-1}, count) // of each component of the rest where its class stands
	var list [][]int
	for e, ends := range g.Edges {
		at := joint(ends, u, v)
		switch {
		case at == alone:
			list = append(list, []int{e})
		case place[part[at]] < 0:
			place[part[at]] = len(list)
			list = append(list, []int{e})
		default:
			list[place[part[at]]] = append(list[place[part[at]]], e)
		}
	}
	return list
}

// joint: an end over which paths go on from an edge, neither u nor v; alone, if there is none, or it is a loop.
func joint(ends [2]int, u, v int) int {
	if ends[0] == ends[1] {
		return alone
	}
	for _, w := range ends {
		if w != u && w != v {
			return w
		}
	}
	return alone
}

// joinedTwice: the nodes that two edges join or more, the lesser first; such as more than two join stand there several times.
func joinedTwice(g api.Net) [][2]int {
	pairs := make([][2]int, len(g.Edges))
	for e, ends := range g.Edges {
		pairs[e] = [2]int{min(ends[0], ends[1]), max(ends[0], ends[1])}
	}
	slices.SortFunc(pairs, byNodes)
	var twice [][2]int
	for i := 1; i < len(pairs); i++ {
		if pairs[i] == pairs[i-1] {
			twice = append(twice, pairs[i])
		}
	}
	return twice
}

func byNodes(a, b [2]int) int { return cmp.Or(cmp.Compare(a[0], b[0]), cmp.Compare(a[1], b[1])) }
