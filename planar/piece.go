package planar

import (
	"slices"

	"tracery/api"
	"tracery/block"
	"tracery/rot"
)

// A piece is a block with two edges or more, as a net of its own, and which nodes and edges those are in the whole net.
type piece struct {
	net   api.Net
	nodes []int
	edges []int
}

// findings are what is known of a planar net: a search that came to its end for each piece,
// and the edges that are blocks alone, bridges and loops, which lie well however they lie.
type findings struct {
	done  []*search
	alone []int
}

// searched: what is found out of g block by block; or, if it is not planar, edges of a block, rising, that hold an obstruction.
func searched(g api.Net) (findings, []int) {
	pieces, alone := parted(g)
	found := findings{alone: alone}
	for _, p := range pieces {
		s, bad := settled(p)
		if bad != nil {
			return findings{}, renamed(bad, p.edges)
		}
		found.done = append(found.done, s)
	}
	return found, nil
}

// rotation: the blocks' rotations made one. At a cut node their lists stand one behind the other, so that each block lies in a face of the others.
func (f findings) rotation(g api.Net) api.Rot {
	r := make(api.Rot, g.N)
	for _, e := range f.alone {
		for side, v := range g.Edges[e] {
			r[v] = append(r[v], 2*e+side)
		}
	}
	for _, s := range f.done {
		for v, list := range s.laid() {
			for _, h := range list {
				r[s.nodes[v]] = append(r[s.nodes[v]], 2*s.edges[h/2]+h%2)
			}
		}
	}
	canon, _ := rot.Canon(g, r)
	return canon
}

// parted: the blocks of g with two edges or more, and the edges that are blocks alone.
func parted(g api.Net) ([]piece, []int) {
	b, _ := block.Blocks(g)
	of := make([][]int, b.Count)
	for e, k := range b.Of {
		of[k] = append(of[k], e)
	}
	var pieces []piece
	var alone []int
	place := slices.Repeat([]int{none}, g.N)
	for _, edges := range of {
		if len(edges) == 1 {
			alone = append(alone, edges[0])
		} else {
			pieces = append(pieces, cutOut(g, edges, place))
		}
	}
	return pieces, alone
}

// cutOut: these edges of g as a net of their own. All that place has is none, now and when it is done.
func cutOut(g api.Net, edges, place []int) piece {
	p := piece{edges: edges, net: api.Net{Edges: make([][2]int, len(edges))}}
	for i, e := range edges {
		for side, v := range g.Edges[e] {
			if place[v] == none {
				place[v] = len(p.nodes)
				p.nodes = append(p.nodes, v)
			}
			p.net.Edges[i][side] = place[v]
		}
	}
	p.net.N = len(p.nodes)
	for _, v := range p.nodes {
		place[v] = none
	}
	return p
}

// renamed: of each number in list the one that stands at that place in names.
func renamed(list, names []int) []int {
	var others []int
	for _, x := range list {
		others = append(others, names[x])
	}
	return others
}
