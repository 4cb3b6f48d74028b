package net

import "tracery/api"

// Split: a new node on the edge e, and behind the last edge one more from it to e's second end.
func Split(g api.Net, e int) (api.Net, api.Errno) {
	if !May(g) {
		return api.Net{}, api.ErrArg
	}
	if !below(e, len(g.Edges)) {
		return api.Net{}, api.ErrBounds
	}
	if !fits(g.N+1, len(g.Edges)+1) {
		return api.Net{}, api.ErrLimit
	}
	edges := make([][2]int, len(g.Edges)+1)
	copy(edges, g.Edges)
	edges[e] = [2]int{g.Edges[e][0], g.N}
	edges[len(g.Edges)] = [2]int{g.N, g.Edges[e][1]}
	return api.Net{N: g.N + 1, Edges: edges}, api.OK
}

// Merge: g with v put into u, and which node each node became.
func Merge(g api.Net, u, v int) (api.Net, []int, api.Errno) {
	if !May(g) {
		return api.Net{}, nil, api.ErrArg
	}
	if !below(u, g.N) || !below(v, g.N) {
		return api.Net{}, nil, api.ErrBounds
	}
	if u == v {
		return api.Net{}, nil, api.ErrArg
	}
	became := make([]int, g.N)
	for w := range became {
		became[w] = w
		if w > v {
			became[w] = w - 1
		}
	}
	// Only now: u itself is one less where it is above v.
	became[v] = became[u]
	return api.Net{N: g.N - 1, Edges: renamed(g.Edges, became)}, became, api.OK
}

// Join: a and b side by side, b's nodes and edges behind a's.
func Join(a, b api.Net) (api.Net, api.Errno) {
	if !May(a) || !May(b) {
		return api.Net{}, api.ErrArg
	}
	if !fits(a.N+b.N, len(a.Edges)+len(b.Edges)) {
		return api.Net{}, api.ErrLimit
	}
	edges := make([][2]int, 0, len(a.Edges)+len(b.Edges))
	edges = append(edges, a.Edges...)
	for _, ends := range b.Edges {
		edges = append(edges, [2]int{a.N + ends[0], a.N + ends[1]})
	}
	return api.Net{N: a.N + b.N, Edges: edges}, api.OK
}

// Moved: g with each node v become to[v], its edges in their order.
func Moved(g api.Net, to []int) (api.Net, api.Errno) {
	if !May(g) {
		return api.Net{}, api.ErrArg
	}
	if len(to) != g.N || !allBelow(to, g.N) {
		return api.Net{}, api.ErrBounds
	}
	if _, err := places(to, g.N); err != api.OK {
		return api.Net{}, err
	}
	return api.Net{N: g.N, Edges: renamed(g.Edges, to)}, api.OK
}

// allBelow looks at the whole list first: a number beyond n counts ahead of one that stands twice, wherever they stand.
func allBelow(list []int, n int) bool {
	for _, x := range list {
		if !below(x, n) {
			return false
		}
	}
	return true
}
