package spqr

import (
	"math"
	"math/rand"
	"slices"
	"testing"

	"tracery/api"
	"tracery/maker"
	"tracery/net"
)

// alone is a list of one part with these nodes and the ends of its edges in a row.
func alone(nodes []int, ends ...int) []api.Piece {
	p := api.Piece{Kind: api.Rigid, Nodes: nodes}
	for i := 0; i+1 < len(ends); i += 2 {
		p.Edges = append(p.Edges, edge(ends[i], ends[i+1], i/2))
	}
	return []api.Piece{p}
}

func TestAtExamples(t *testing.T) {
	ps, _ := Of(with(made(t)(maker.Cycle(4)), 0, 2))
	for i, want := range []api.Net{of(3, 0, 1, 1, 2, 0, 2), of(2, 0, 1, 0, 1, 0, 1), of(3, 1, 2, 0, 2, 0, 1)} {
		if g, err := At(ps, i); !net.Same(g, want) || err != api.OK {
			t.Errorf("P16.2: At(%d): %v, %v, not %v", i, g, err, want)
		}
	}
}

// TestAtOfTrees: each part of a tree, nodes by their places, and back.
func TestAtOfTrees(t *testing.T) {
	r := rand.New(rand.NewSource(165))
	for i := range 400 {
		ps, err := Of(eared(t, r, i%12))
		for k, p := range ps {
			g, err := At(ps, k)
			if err != api.OK || g.N != len(p.Nodes) || len(g.Edges) != len(p.Edges) {
				t.Fatalf("P16.2: At(%v, %d): %v, %v", ps, k, g, err)
			}
			for e, b := range p.Edges {
				if g.Edges[e][0] >= g.N || g.Edges[e][1] >= g.N || p.Nodes[g.Edges[e][0]] != b.A || p.Nodes[g.Edges[e][1]] != b.B {
					t.Fatalf("P16.2: At(%v, %d): %v", ps, k, g)
				}
			}
		}
		for _, k := range append(strange(), len(ps)) {
			if g, bounds := At(ps, k); err == api.OK && (bounds != api.ErrBounds || g.N != 0 || len(g.Edges) != 0) {
				t.Fatalf("P16.2: At of %d parts, %d: %v, %v", len(ps), k, g, bounds)
			}
		}
	}
}

// TestAtOfOthers: parts that are in no tree of parts, which nevertheless are nets.
func TestAtOfOthers(t *testing.T) {
	all := make([]int, 1024)
	for v := range all {
		all[v] = 5 * v
	}
	most := slices.Repeat(nums(5, 0), 3072)
	for _, row := range []struct {
		name string
		ps   []api.Piece
		want api.Net
	}{
		{"no node", alone(nil), of(0)},
		{"a node alone", alone(nums(7)), of(1)},
		{"a node with a loop", alone(nums(7), 7, 7), of(1, 0, 0)},
		{"the greater node first", alone(nums(2, 9), 9, 2, 2, 9), of(2, 1, 0, 0, 1)},
		{"nodes that do not rise", alone(nums(8, 3, 5), 3, 8, 5, 3), of(3, 1, 0, 2, 1)},
		{"nodes below 0 and far above", alone(nums(math.MinInt, -1, 0, math.MaxInt), 0, math.MaxInt, -1, math.MinInt), of(4, 2, 3, 1, 0)},
		{"a node that no edge has", alone(nums(1, 2, 3), 1, 3), of(3, 0, 2)},
		{"as many nodes as may be", alone(all, 0, 5*1023, 5*1023, 5), of(1024, 0, 1023, 1023, 1)},
		{"as many edges as may be", alone(nums(0, 5), most...), of(2, slices.Repeat(nums(1, 0), 3072)...)},
		{"as many of both", alone(all, most...), of(1024, slices.Repeat(nums(1, 0), 3072)...)},
	} {
		for _, kind := range nums(api.Ring, api.Sheaf, api.Rigid, 0, -1, math.MaxInt) {
			row.ps[0].Kind = kind
			if g, err := At(row.ps, 0); !net.Same(g, row.want) || err != api.OK {
				t.Errorf("P16.2: At of %s: %v, %v, not %v", row.name, g, err, row.want)
			}
		}
	}
	strangers := []api.Piece{{Kind: 9, Nodes: nums(4, 6), Edges: []api.Bond{{A: 6, B: 4, Edge: math.MinInt, Twin: math.MaxInt}, {A: 4, B: 4}}}}
	if g, err := At(strangers, 0); !net.Same(g, of(2, 1, 0, 0, 0)) || err != api.OK {
		t.Errorf("P16.2: At of edges and twins that are nowhere: %v, %v", g, err)
	}
}

func TestAtRefused(t *testing.T) {
	many := make([]int, 1025)
	for v := range many {
		many[v] = v
	}
	list := [][]api.Piece{
		alone(nil, 0, 0), alone(nil, 0, 1), alone(nums(0), 0, 1), alone(nums(1), 0, 1), alone(nums(0, 1), 0, 1, 1, 2), alone(nums(0, 1, 3), 0, 1, 2, 3),
		alone(nums(5, 6), 0, 1), alone(many), alone(many, 0, 1), alone(nums(0, 1), slices.Repeat(nums(0, 1), 3073)...), alone(many, slices.Repeat(nums(0, 1), 3073)...),
		alone(make([]int, 1<<20)), alone(nil, slices.Repeat(nums(0, 1), 1<<17)...),
	}
	for _, x := range strange() {
		list = append(list, alone(nums(0, 1, 2), 0, 1, 1, x), alone(nums(0, 1, 2), x, 1, 1, 0), alone(nums(0, 1, 2), x, x))
	}
	for _, ps := range list {
		if g, err := At(ps, 0); err != api.ErrArg || g.N != 0 || len(g.Edges) != 0 {
			t.Errorf("P16.2: At of %d nodes, %d edges: %v, %v", len(ps[0].Nodes), len(ps[0].Edges), g, err)
		}
		behind := append(alone(nums(3, 4), 3, 4), ps...)
		if g, err := At(behind, 0); !net.Same(g, of(2, 0, 1)) || err != api.OK {
			t.Errorf("P16.2: At of a part ahead of one that is no net: %v, %v", g, err)
		}
		if g, err := At(behind, 1); err != api.ErrArg || g.N != 0 || len(g.Edges) != 0 {
			t.Errorf("P16.2: At of a part behind one that is a net: %v, %v", g, err)
		}
		for _, i := range append(strange(), 2) {
			if g, err := At(behind, i); err != api.ErrBounds || g.N != 0 || len(g.Edges) != 0 {
				t.Errorf("P16.2: At(.., %d) of 2 parts: %v, %v", i, g, err)
			}
		}
	}
	for _, i := range append(strange(), 0, 1) {
		for _, ps := range [][]api.Piece{nil, {}} {
			if g, err := At(ps, i); err != api.ErrBounds || g.N != 0 || len(g.Edges) != 0 {
				t.Errorf("P16.2: At of no part, %d: %v, %v", i, g, err)
			}
		}
	}
}
