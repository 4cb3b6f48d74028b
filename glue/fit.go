package glue

import (
	"slices"

	"tracery/api"
	"tracery/net"
	"tracery/sepa"
	"tracery/spqr"
)

// misfit is what the look at a list gives up with.
type misfit struct{}

// must gives up, if it is not so.
func must(so bool) {
	if !so {
		panic(misfit{})
	}
}

// mustFit gives up, if the list of parts may not be: so few twins as mustBeOfSize allows make a tree, if it is connected.
// The kinds come last, for the levels of Rigids take the longest.
func mustFit(ps []api.Piece) {
	mustBeOfSize(ps)
	mustHaveEachEdge(ps)
	for _, p := range ps {
		mustHaveItsNodes(p)
	}
	mustHaveTwins(ps)
	must(len(beyond(ps, none, 0)) == len(ps))
	mustShareNodes(ps)
	for i := range ps {
		must(isOfKind(ps, i))
	}
}

// mustBeOfSize counts: a tree has one twin pair less than parts, so there are two virtual edges to each part but one.
// As each part has three edges or more, there are at least three real ones, and more of them than parts: all else is short.
func mustBeOfSize(ps []api.Piece) {
	count, virtual := len(realEdges(ps)), 0
	for _, p := range ps {
		must(len(p.Edges) >= 3)
		virtual += len(p.Edges)
	}
	virtual -= count
	must(len(ps) > 0 && count <= api.MaxEdges && virtual == 2*(len(ps)-1))
}

// mustHaveEachEdge: the real edges have the numbers from 0 on, each once, and virtual ones none.
func mustHaveEachEdge(ps []api.Piece) {
	met := make([]bool, len(realEdges(ps)))
	for _, p := range ps {
		for _, b := range p.Edges {
			if b.Twin != none {
				must(b.Edge == none)
				continue
			}
			must(b.Edge >= 0 && b.Edge < len(met) && !met[b.Edge])
			met[b.Edge] = true
		}
	}
}

// mustHaveItsNodes: the nodes of a part rise and are just the ends of its edges, the lesser one first.
func mustHaveItsNodes(p api.Piece) {
	ends := make([]int, 0, 2*len(p.Edges))
	for _, b := range p.Edges {
		must(b.A < b.B)
		ends = append(ends, b.A, b.B)
	}
	slices.Sort(ends)
	must(slices.Equal(p.Nodes, slices.Compact(ends)))
}

// mustHaveTwins: each virtual edge has one just so in another part, and no Ring or Sheaf is twin of its like.
func mustHaveTwins(ps []api.Piece) {
	ends := map[[2]int][2]int{} // of each two twins, by the part that has the virtual edge and the other one
	for i, p := range ps {
		for _, b := range p.Edges {
			if b.Twin == none {
				continue
			}
			_, met := ends[[2]int{i, b.Twin}]
			must(!met && b.Twin != i)
			ends[[2]int{i, b.Twin}] = [2]int{b.A, b.B}
		}
	}
	for way, pair := range ends {
		back, known := ends[[2]int{way[1], way[0]}]
		must(known && back == pair)
		kind := ps[way[0]].Kind
		must(kind == api.Rigid || kind != ps[way[1]].Kind)
	}
}

// mustShareNodes: the nodes are those from 0 on, and parts have nodes in common as they are to.
// In a tree the parts that have a node, less the twins that both have it, are as many as the lumps that these parts make: one at least.
// So they hang together, and no twins have it but as an end of their virtual edges, just if the parts less such ends are one.
func mustShareNodes(ps []api.Piece) {
	greatest := 0
	for _, p := range ps {
		last := p.Nodes[len(p.Nodes)-1]
		must(p.Nodes[0] >= 0 && last < api.MaxNodes)
		greatest = max(greatest, last)
	}
	count := make([]int, greatest+1)
	for i, p := range ps {
		for _, v := range p.Nodes {
			count[v]++
		}
		for _, b := range p.Edges {
			if b.Twin > i {
				count[b.A]--
				count[b.B]--
			}
		}
	}
	for _, lumps := range count {
		must(lumps == 1)
	}
}

// isOfKind: whether the i-th part is what its Kind says.
// A net of level 2 that has no more edges than nodes is a cycle.
func isOfKind(ps []api.Piece, i int) bool {
	g, err := spqr.At(ps, i)
	if err != api.OK {
		return false
	}
	switch ps[i].Kind {
	case api.Ring:
		return len(g.Edges) == g.N && isOfLevel(g, 2)
	case api.Sheaf:
		return g.N == 2
	case api.Rigid:
		look, _ := net.Look(g)
		return look.Simple && isOfLevel(g, 3)
	}
	return false
}

func isOfLevel(g api.Net, level int) bool {
	is, _ := sepa.Level(g)
	return is == level
}
