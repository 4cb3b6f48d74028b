package spqr

import (
	"slices"

	"tracery/api"
	"tracery/sepa"
)

// none is written where there is no number.
const none = -1

// taking is a net that is being taken apart. Its parts have no lasting numbers before all is done:
// till then the Twin of a virtual edge is the number of a seam, which its twin has too, and no other edge.
type taking struct {
	parts [][]api.Bond // those that were split since are empty
	in    [][]int      // of each node the parts that have it
	seams int
}

// begin: g as one part.
func begin(g api.Net) *taking {
	bonds := make([]api.Bond, len(g.Edges))
	for e, ends := range g.Edges {
		bonds[e] = api.Bond{A: min(ends[0], ends[1]), B: max(ends[0], ends[1]), Edge: e, Twin: none}
	}
	t := &taking{in: make([][]int, g.N)}
	t.add(bonds)
	return t
}

// split takes the part that has both nodes apart, each class of theirs on its own.
// If there are just two classes, they are twins; else there is a Sheaf between, which has the classes of one edge itself.
// No part has both nodes, if others of its Ring were split ahead.
func (t *taking) split(pair [2]int) {
	p := t.common(pair)
	if p == none {
		return
	}
	classes := t.classes(p, pair)
	t.drop(p)
	if len(classes) == 2 {
		seam := t.seam(pair)
		t.add(append(classes[0], seam))
		t.add(append(classes[1], seam))
		return
	}
	var sheaf []api.Bond
	for _, class := range classes {
		if len(class) > 1 {
			seam := t.seam(pair)
			t.add(append(class, seam))
			class = []api.Bond{seam}
		}
		sheaf = append(sheaf, class...)
	}
	t.add(sheaf)
}

// common: the part that has both nodes. There is one at most: two parts have two nodes in common only where those were split,
// and no pair is split twice.
func (t *taking) common(pair [2]int) int {
	for _, p := range t.in[pair[0]] {
		if slices.Contains(t.in[pair[1]], p) {
			return p
		}
	}
	return none
}

// classes: the edges of the part p by the classes of the two nodes.
func (t *taking) classes(p int, pair [2]int) [][]api.Bond {
	part := t.parts[p]
	g := api.Net{N: len(t.in), Edges: make([][2]int, len(part))}
	for i, b := range part {
		g.Edges[i] = [2]int{b.A, b.B}
	}
	places, _ := sepa.Classes(g, pair[0], pair[1])
	classes := make([][]api.Bond, len(places))
	for k, class := range places {
		for _, i := range class {
			classes[k] = append(classes[k], part[i])
		}
	}
	return classes
}

func (t *taking) add(part []api.Bond) {
	for _, v := range nodesOf(part) {
		t.in[v] = append(t.in[v], len(t.parts))
	}
	t.parts = append(t.parts, part)
}

func (t *taking) drop(p int) {
	for _, v := range nodesOf(t.parts[p]) {
		t.in[v] = slices.DeleteFunc(t.in[v], func(q int) bool { return q == p })
	}
	t.parts[p] = nil
}

// seam: a virtual edge between the two nodes, and its twin just so.
func (t *taking) seam(pair [2]int) api.Bond {
	t.seams++
	return api.Bond{A: pair[0], B: pair[1], Edge: none, Twin: t.seams - 1}
}

// nodesOf: the nodes of some edges, rising.
func nodesOf(bonds []api.Bond) []int {
	nodes := make([]int, 0, 2*len(bonds))
	for _, b := range bonds {
		nodes = append(nodes, b.A, b.B)
	}
	slices.Sort(nodes)
	return slices.Compact(nodes)
}
