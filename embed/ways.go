package embed

import (
	"cmp"
	"slices"

	"tracery/api"
	"tracery/planar"
	"tracery/rot"
	"tracery/spqr"
)

// ways are what the ways of a net are made of: its parts, and of each of them
// how many ways it has, and one of them, whose half-edges are named by the places of its edges.
type ways struct {
	g     api.Net
	parts []api.Piece
	bases []int64
	bare  []api.Net
	first []api.Rot
	count int64
}

// waysOf refuses what has none, or too many.
func waysOf(g api.Net) (*ways, api.Errno) {
	parts, err := spqr.Of(g)
	if err != api.OK {
		return nil, err
	}
	w := &ways{g: g, parts: parts}
	for i := range parts {
		if err := w.take(i); err != api.OK {
			return nil, err
		}
	}
	if w.count = product(w.bases); w.count == beyond {
		return nil, api.ErrMany
	}
	return w, api.OK
}

// take takes up the part i. A net is planar just if all its Rigids are: Rings and Sheaves always are.
func (w *ways) take(i int) api.Errno {
	part := w.parts[i]
	bare, err := spqr.At(w.parts, i)
	if err != api.OK {
		return err
	}
	base, first := int64(1), api.Rot(nil)
	switch part.Kind {
	case api.Ring:
		first, err = rot.First(bare)
	case api.Sheaf:
		base = product(choices(len(part.Edges) - 1))
	case api.Rigid:
		base = 2
		first, err = planar.Embed(bare)
	}
	w.bases = append(w.bases, base)
	w.bare = append(w.bare, bare)
	w.first = append(w.first, first)
	return err
}

// way: the rotation of the part i that its digit tells: the order of a Sheaf, the side of a Rigid.
func (w *ways) way(i int, digit int64) api.Rot {
	switch {
	case w.parts[i].Kind == api.Sheaf:
		return sheafWay(order(len(w.parts[i].Edges), digit))
	case digit == 1:
		mirror, _ := rot.Mirror(w.bare[i], w.first[i])
		return mirror
	}
	return w.first[i]
}

// sheafWay: edges in order round the one node, and so turned about round the other one.
func sheafWay(round []int) api.Rot {
	r := make(api.Rot, 2)
	for _, j := range round {
		r[0] = append(r[0], 2*j)
		r[1] = append(r[1], 2*j+1)
	}
	slices.Reverse(r[1])
	return r
}

// digits: of each part the digit of the rotation that it has in r, which is planar.
func (w *ways) digits(r api.Rot) []int64 {
	at := w.places(r)
	digits := make([]int64, len(w.parts))
	for i, part := range w.parts {
		v := part.Nodes[0]
		switch part.Kind {
		case api.Sheaf:
			digits[i] = orderNumber(w.round(i, at, len(r[v])))
		case api.Rigid:
			digits[i] = w.side(i, at, len(r[v]))
		}
	}
	return digits
}

// places: of each half-edge the place in its list.
func (w *ways) places(r api.Rot) []int {
	at := make([]int, 2*len(w.g.Edges))
	for _, list := range r {
		for k, h := range list {
			at[h] = k
		}
	}
	return at
}

// round: the edges of the Sheaf i as they go round its first node from the edge 0 on, by half-edges that stand for them.
func (w *ways) round(i int, at []int, size int) []int {
	edges := w.parts[i].Edges
	far := make([]int, len(edges))
	round := make([]int, len(edges))
	for j := range edges {
		far[j] = (at[w.over(i, j)] - at[w.over(i, 0)] + size) % size
		round[j] = j
	}
	slices.SortFunc(round, func(x, y int) int { return cmp.Compare(far[x], far[y]) })
	return round
}

// side: 0 if the Rigid i has its first rotation, 1 if it has the mirror.
// It has no others, and so three edges at one node tell which.
func (w *ways) side(i int, at []int, size int) int64 {
	list := w.first[i][0]
	a, b, c := at[w.over(i, list[0]/2)], at[w.over(i, list[1]/2)], at[w.over(i, list[2]/2)]
	if (b-a+size)%size < (c-a+size)%size {
		return 0
	}
	return 1
}

// over: a half-edge of the net that leaves the first node of the part i over its edge j, or over what hangs there.
// In a planar rotation those of one edge stand together, so any of them tells where it is.
func (w *ways) over(i, j int) int {
	v := w.parts[i].Nodes[0]
	b := w.parts[i].Edges[j]
	for b.Edge == none {
		i, b = b.Twin, another(w.parts[b.Twin], v, i)
	}
	return halfAt(w.g, b.Edge, v)
}

// another: an edge at v of a part, but not the twin of the part away.
func another(part api.Piece, v, away int) api.Bond {
	at := slices.IndexFunc(part.Edges, func(b api.Bond) bool { return (b.A == v || b.B == v) && b.Twin != away })
	return part.Edges[at]
}

// halfAt: the half-edge of e that leaves v.
func halfAt(g api.Net, e, v int) int {
	if g.Edges[e][0] == v {
		return 2 * e
	}
	return 2*e + 1
}
