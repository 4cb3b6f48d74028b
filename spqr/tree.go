package spqr

import (
	"cmp"
	"slices"

	"tracery/api"
)

// joining goes through the parts of a net that is taken apart, from seam to seam.
type joining struct {
	parts [][]api.Bond
	kinds []int
	sides [][]int // of each seam the two parts that have it
}

// branch is a part as it will be told, with all that hangs on it, away from the part on which it hangs itself.
type branch struct {
	kind  int
	by    api.Bond   // the virtual edge by which it hangs there
	real  []api.Bond // by number
	below []*branch  // by their least edges
	least int        // the least edge of the net that is in it or in what hangs on it
}

// tree: the parts, such as are one put together, as they hang on the one that has the edge 0.
func (t *taking) tree() *branch {
	j := joining{parts: t.parts, kinds: make([]int, len(t.parts)), sides: make([][]int, t.seams)}
	first := none
	for p, part := range t.parts {
		j.kinds[p] = kind(part)
		for _, b := range part {
			if b.Edge == 0 {
				first = p
			}
			if b.Twin != none {
				j.sides[b.Twin] = append(j.sides[b.Twin], p)
			}
		}
	}
	return j.branch(first, api.Bond{Edge: none, Twin: none})
}

// kind: what a part is that is a Sheaf or can't be split. It is biconnected: with no more edges than nodes it is a cycle.
func kind(part []api.Bond) int {
	nodes := len(nodesOf(part))
	switch {
	case nodes == 2:
		return api.Sheaf
	case nodes == len(part):
		return api.Ring
	}
	return api.Rigid
}

// branch: the part p and what hangs on it, come to by that virtual edge.
func (j joining) branch(p int, by api.Bond) *branch {
	b := &branch{kind: j.kinds[p], by: by, least: api.MaxEdges}
	j.fill(b, p, by.Twin)
	slices.SortFunc(b.real, func(x, y api.Bond) int { return cmp.Compare(x.Edge, y.Edge) })
	slices.SortFunc(b.below, func(x, y *branch) int { return cmp.Compare(x.least, y.least) })
	if len(b.real) > 0 {
		b.least = b.real[0].Edge
	}
	if len(b.below) > 0 {
		b.least = min(b.least, b.below[0].least)
	}
	return b
}

// fill puts the edges of the part p into b, but for the seam over which p was come to.
// Two Rings that are twins are one cycle without their seam, and two Sheaves one Sheaf: all of them go into b.
func (j joining) fill(b *branch, p, seam int) {
	for _, x := range j.parts[p] {
		switch {
		case x.Twin == none:
			b.real = append(b.real, x)
		case x.Twin == seam:
		case j.one(x.Twin):
			j.fill(b, j.beyond(x.Twin, p), x.Twin)
		default:
			b.below = append(b.below, j.branch(j.beyond(x.Twin, p), x))
		}
	}
}

// one: whether the two parts at a seam are one part in the tree.
func (j joining) one(seam int) bool {
	a, b := j.kinds[j.sides[seam][0]], j.kinds[j.sides[seam][1]]
	return a == b && a != api.Rigid
}

// beyond: the part at a seam that is not p.
func (j joining) beyond(seam, p int) int {
	if j.sides[seam][0] == p {
		return j.sides[seam][1]
	}
	return j.sides[seam][0]
}

// tell: the pieces told already, behind them b, which hangs on the part up, and then what hangs on b.
// A part comes behind the one that it hangs on, so its virtual edges are in the order of their twins.
func (b *branch) tell(pieces []api.Piece, up int) []api.Piece {
	edges := slices.Clone(b.real)
	if up != none {
		edges = append(edges, virtual(b.by, up))
	}
	number := len(pieces)
	pieces = append(pieces, api.Piece{Kind: b.kind})
	for _, c := range b.below {
		edges = append(edges, virtual(c.by, len(pieces)))
		pieces = c.tell(pieces, number)
	}
	pieces[number].Nodes, pieces[number].Edges = nodesOf(edges), edges
	return pieces
}

func virtual(b api.Bond, twin int) api.Bond {
	return api.Bond{A: b.A, B: b.B, Edge: none, Twin: twin}
}
