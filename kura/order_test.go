package kura

import (
	"math/rand"
	"slices"
	"testing"

	"tracery/api"
	"tracery/maker"
	"tracery/net"
)

func sameLists(a, b [][]int) bool { return slices.EqualFunc(a, b, slices.Equal[[]int]) }

// TestOrder has answers that are written out: which node first, which path first, and by which half-edges.
func TestOrder(t *testing.T) {
	for _, row := range []struct {
		name   string
		g      api.Net
		edges  []int
		branch []int
		paths  [][]int
	}{
		{"K5", core(t, 5), all(core(t, 5)), nums(0, 1, 2, 3, 4),
			[][]int{{0}, {2}, {4}, {6}, {8}, {10}, {12}, {14}, {16}, {18}}},
		{"K3,3", core(t, 33), all(core(t, 33)), nums(0, 1, 2, 3, 4, 5),
			[][]int{{0}, {2}, {4}, {6}, {8}, {10}, {12}, {14}, {16}}},
		{"K5, edges turned about and moved, behind a loop and a node",
			of(6, 0, 0, 5, 4, 5, 3, 5, 2, 5, 1, 4, 3, 4, 2, 4, 1, 3, 2, 3, 1, 2, 1), nums(10, 9, 8, 7, 6, 5, 4, 3, 2, 1), nums(1, 2, 3, 4, 5),
			[][]int{{21}, {19}, {15}, {9}, {17}, {13}, {7}, {11}, {5}, {3}}},
		{"K3,3 of even and odd nodes",
			of(6, 0, 1, 3, 0, 0, 5, 2, 5, 2, 3, 1, 2, 4, 1, 3, 4, 4, 5), nums(8, 0, 7, 1, 6, 2, 5, 3, 4), nums(0, 2, 4, 1, 3, 5),
			[][]int{{0}, {3}, {4}, {11}, {8}, {6}, {12}, {15}, {16}}},
		{"K3,3, the least one's side are 0, 4, 5",
			of(6, 1, 4, 2, 4, 3, 4, 1, 5, 2, 5, 3, 5, 1, 0, 2, 0, 3, 0), all(core(t, 33)), nums(0, 4, 5, 1, 2, 3),
			[][]int{{13}, {15}, {17}, {1}, {3}, {5}, {7}, {9}, {11}}},
		{"K3,3, an edge split twice, by halves that run against each other",
			of(8, 5, 0, 1, 3, 1, 4, 1, 5, 2, 3, 2, 4, 2, 5, 0, 3, 6, 0, 6, 7, 4, 7), nums(10, 9, 8, 7, 6, 5, 4, 3, 2, 1, 0), nums(0, 1, 2, 3, 4, 5),
			[][]int{{14}, {17, 18, 21}, {1}, {2}, {4}, {6}, {8}, {10}, {12}}},
		{"K5, whose branch nodes are the last ones",
			of(7, 1, 6, 2, 3, 2, 4, 2, 5, 2, 6, 3, 4, 3, 5, 3, 6, 4, 5, 4, 6, 5, 0, 0, 1), nums(1, 2, 3, 4, 5, 6, 7, 8, 9, 11, 10, 0), nums(2, 3, 4, 5, 6),
			[][]int{{2}, {4}, {6}, {8}, {10}, {12}, {14}, {16}, {18}, {20, 22, 0}}},
	} {
		branch, e1 := Branch(row.g, row.edges)
		if !slices.Equal(branch, row.branch) || e1 != api.OK {
			t.Errorf("P12.2: Branch of %s: %v, %v", row.name, branch, e1)
		}
		paths, e2 := Paths(row.g, row.edges)
		if !sameLists(paths, row.paths) || e2 != api.OK {
			t.Errorf("P12.2: Paths of %s: %v, %v", row.name, paths, e2)
		}
	}
}

// TestAllSides: each parting of six nodes in threes, split and not.
func TestAllSides(t *testing.T) {
	r := rand.New(rand.NewSource(124))
	for set := range 1 << 6 {
		var own, other []int
		for v := range 6 {
			if set>>v&1 == set&1 {
				own = append(own, v)
			} else {
				other = append(other, v)
			}
		}
		if len(own) != 3 {
			continue
		}
		to := slices.Concat(own, other)
		if set&1 == 0 { // the sides may stand either way about in the net
			to = slices.Concat(other, own)
		}
		want := slices.Concat(own, other)
		g := turned(r, made(t)(net.Moved(core(t, 33), to)))
		for i := range 6 {
			if branch, err := Branch(g, r.Perm(len(g.Edges))); !slices.Equal(branch, want) || err != api.OK {
				t.Errorf("P12.2: Branch(%v): %v, %v, not %v", g, branch, err, want)
			}
			g = split(t, g, i)
		}
	}
}

// TestShrink: it is what the maker makes, whatever the edges' order and direction.
func TestShrink(t *testing.T) {
	must := made(t)
	r := rand.New(rand.NewSource(125))
	for _, kind := range nums(5, 33) {
		want := must(maker.Complete(5))
		if kind == 33 {
			want = must(maker.Two(3, 3))
		}
		for range 200 {
			g, edges := hidden(t, r, split(t, core(t, kind), 0, 8, 0, 3), 2, 3)
			if small, err := Shrink(g, edges); !net.Same(small, want) || err != api.OK {
				t.Errorf("P12.3: Shrink(%v, %v): %v, %v", g, edges, small, err)
			}
		}
	}
}

// TestAnyOrder: no call hangs on the order of the edges in the list.
func TestAnyOrder(t *testing.T) {
	r := rand.New(rand.NewSource(126))
	for i := range 200 {
		g := split(t, core(t, nums(5, 33)[i%2]), 0, 8, 0, 3)
		g, edges := hidden(t, r, g, 2, 4)
		for _, c := range calls() {
			first := c.ask(g, edges)
			for range 5 {
				r.Shuffle(len(edges), func(i, k int) { edges[i], edges[k] = edges[k], edges[i] })
				if again := c.ask(g, edges); !sameAnswer(first, again) {
					t.Fatalf("what follows: %s(%v, %v): %v, then %v", c.name, g, edges, first, again)
				}
			}
		}
	}
}
