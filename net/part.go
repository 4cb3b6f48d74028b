package net

import "tracery/api"

// Sub: all nodes of g, and its edges keep, in that order.
func Sub(g api.Net, keep []int) (api.Net, api.Errno) {
	if !May(g) {
		return api.Net{}, api.ErrArg
	}
	if _, err := places(keep, len(g.Edges)); err != api.OK {
		return api.Net{}, err
	}
	return api.Net{N: g.N, Edges: picked(g.Edges, keep)}, api.OK
}

// Part: the given nodes in that order, the edges among them, and which edges those were.
func Part(g api.Net, nodes []int) (api.Net, []int, api.Errno) {
	if !May(g) {
		return api.Net{}, nil, api.ErrArg
	}
	place, err := places(nodes, g.N)
	if err != api.OK {
		return api.Net{}, nil, err
	}
	var which []int
	for e, ends := range g.Edges {
		if place[ends[0]] != nowhere && place[ends[1]] != nowhere {
			which = append(which, e)
		}
	}
	return api.Net{N: len(nodes), Edges: renamed(picked(g.Edges, which), place)}, which, api.OK
}

// Bare: g without loops and without edges parallel to one with a lesser number, and which edges are left.
func Bare(g api.Net) (api.Net, []int, api.Errno) {
	if !May(g) {
		return api.Net{}, nil, api.ErrArg
	}
	var left []int
	for e, repeated := range repeats(g.Edges) {
		if !repeated && !isLoop(g.Edges[e]) {
			left = append(left, e)
		}
	}
	return api.Net{N: g.N, Edges: picked(g.Edges, left)}, left, api.OK
}

// nowhere is the place of a number that is not in a list.
const nowhere = -1

// places tells where in list each of the numbers 0 to n - 1 stands, or the
// first fault in list: a number beyond those, or one that stood already.
func places(list []int, n int) ([]int, api.Errno) {
	place := make([]int, n)
	for x := range place {
		place[x] = nowhere
	}
	for i, x := range list {
		if !below(x, n) {
			return nil, api.ErrBounds
		}
		if place[x] != nowhere {
			return nil, api.ErrExists
		}
		place[x] = i
	}
	return place, api.OK
}

// picked has the edges with the given numbers, in that order.
func picked(edges [][2]int, numbers []int) [][2]int {
	some := make([][2]int, len(numbers))
	for i, e := range numbers {
		some[i] = edges[e]
	}
	return some
}

// renamed has the same edges, each end v of theirs become to[v].
func renamed(edges [][2]int, to []int) [][2]int {
	others := make([][2]int, len(edges))
	for e, ends := range edges {
		others[e] = [2]int{to[ends[0]], to[ends[1]]}
	}
	return others
}
