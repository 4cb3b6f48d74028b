package maxi

import (
	"slices"

	"tracery/api"
	"tracery/net"
	"tracery/path"
	"tracery/planar"
)

// greedy: the edges of the greedy part of g in the order of the numbers, rising.
// Loops and parallel edges need no search: a loop is kept, and of parallel edges all have the first one's lot.
// (If that was left out, so are they: by then no fewer edges are kept.)
func greedy(g api.Net) []int {
	bare, _, _ := net.Bare(g)
	count := make(map[[2]int]int, len(bare.Edges))
	for _, ends := range part(bare) {
		count[risingEnds(ends)]++
	}
	var kept []int
	for e, ends := range g.Edges {
		if ends[0] == ends[1] || count[risingEnds(ends)] > 0 {
			kept = append(kept, e)
		}
	}
	return kept
}

// risingEnds: the lesser end first, for parallel edges may run either way about.
func risingEnds(ends [2]int) [2]int { return [2]int{min(ends[0], ends[1]), max(ends[0], ends[1])} }

// part: the edges of the greedy part of g, which is simple, by their ends.
// An edge that joins two components needs no search. Such edges come ahead of all others:
// each closes no cycle with edges ahead of it in the order, so that none of those hangs on it.
func part(g api.Net) [][2]int {
	joins, _, _ := path.Least(g, make([]float64, len(g.Edges))) // all of one weight: by number, each that closes no cycle
	first, _ := net.Sub(g, joins)
	rest, _ := net.Sub(g, others(len(g.Edges), joins))
	return grown(first, rest.Edges)
}

// grown: the edges of g, which is planar, and one by one each of the rest that is planar with those ahead.
// Whatever is part of a planar net is planar, so that several are kept at one go if they are planar all together:
// more of them each time that they are, fewer each time that they are not, until it is one that is left out.
func grown(g api.Net, rest [][2]int) [][2]int {
	for width := 1; len(rest) > 0; {
		width = min(width, len(rest))
		more := api.Net{N: g.N, Edges: slices.Concat(g.Edges, rest[:width])}
		is, _ := planar.Is(more)
		switch {
		case is:
			g, rest, width = more, rest[width:], 2*width
		case width > 1:
			width /= 2
		default:
			rest = rest[1:]
		}
	}
	return g.Edges
}

// others: the numbers 0 to count - 1 that are not in list, which rises.
func others(count int, list []int) []int {
	var rest []int
	for x := range count {
		if len(list) > 0 && list[0] == x {
			list = list[1:]
		} else {
			rest = append(rest, x)
		}
	}
	return rest
}

// renamed: of each number in list the one that stands at that place in names.
func renamed(list, names []int) []int {
	named := make([]int, len(list))
	for i, x := range list {
		named[i] = names[x]
	}
	return named
}
