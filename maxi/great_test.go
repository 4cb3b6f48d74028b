package maxi

import (
	"math/rand"
	"slices"
	"testing"

	"tracery/api"
	"tracery/maker"
	"tracery/net"
)

// checkChoices: that kept is the greedy part of g in that order: all of it is planar, and so is whatever was kept ahead of an edge in it;
// and an edge that was left out is not planar with what was kept ahead of it. Of great nets only some of those are looked at.
func checkChoices(t *testing.T, name string, g api.Net, order, kept []int, each int) {
	t.Helper()
	if !slices.IsSorted(kept) || !isPlanar(t, g, kept...) {
		t.Fatalf("P14.1: %s, great: %d edges are kept that are not planar, or do not rise", name, len(kept))
	}
	isKept := make([]bool, len(g.Edges))
	for _, e := range kept {
		isKept[e] = true
	}
	var ahead []int
	for i, left := 0, 0; i < len(order); i++ {
		if isKept[order[i]] {
			ahead = append(ahead, order[i])
			continue
		}
		if left++; left%each == 0 && isPlanar(t, g, append(slices.Clone(ahead), order[i])...) {
			t.Fatalf("P14.1: %s, great: %d is left out, but it is planar with those kept ahead", name, order[i])
		}
	}
}

// checkGreat: all calls of a great net, Keep in that order, Why of a few edges; and which edges Sub keeps.
func checkGreat(t *testing.T, name string, g api.Net, order []int) []int {
	t.Helper()
	kept := checkSub(t, name, g)
	left := leftOut(g, kept)
	each := 1 + len(left)/100
	checkChoices(t, name, g, upTo(len(g.Edges)), kept, each)
	other, err := Keep(g, order)
	if err != api.OK {
		t.Fatalf("P14.1: Keep of %s, great: %v", name, err)
	}
	checkChoices(t, name, g, order, other, each)
	checkLayers(t, name, g)
	checkWhy(t, name, g, kept, kept[len(kept)-1])
	for i := 0; i < len(left); i += 1 + len(left)/2 {
		checkWhy(t, name, g, kept, left[i])
	}
	return kept
}

// filled is g with loops and parallel edges up to the limit.
func filled(g api.Net) api.Net {
	m := len(g.Edges)
	for i := 0; len(g.Edges) < api.MaxEdges; i++ {
		ends := g.Edges[i*7%m]
		g = with(g, ends[i%2], ends[1-i%2])
		if len(g.Edges) < api.MaxEdges {
			g = with(g, i%g.N, i%g.N)
		}
	}
	return g
}

// TestGreatPlanar: planar nets as great as they may be, or nearly: all is kept, in one layer.
func TestGreatPlanar(t *testing.T) {
	must := made(t)
	r := rand.New(rand.NewSource(148))
	for _, row := range []struct {
		name string
		g    api.Net
	}{
		{"Stack", must(maker.Stack(1024, 7))},
		{"Stack, filled up", filled(must(maker.Stack(1024, 8)))},
		{"Grid", must(maker.Grid(32, 32))},
		{"Grid, filled up", filled(must(maker.Grid(4, 256)))},
		{"Prism", must(maker.Prism(512))},
		{"Cycle", must(maker.Cycle(1024))},
		{"Path", must(maker.Path(1024))},
		{"Two(2, 1022)", must(maker.Two(2, 1022))},
		{"Bond", must(maker.Bond(3072))},
		{"loops", api.Net{N: 1024, Edges: make([][2]int, 3072)}},
	} {
		for _, g := range []api.Net{row.g, shuffled(t, r, row.g)} {
			if kept := checkGreat(t, row.name, g, r.Perm(len(g.Edges))); len(kept) != len(g.Edges) {
				t.Errorf("P14.1: Sub of %s, great: keeps %d of %d edges", row.name, len(kept), len(g.Edges))
			}
			if _, count, err := Layers(g); count != 1 || err != api.OK {
				t.Errorf("P14.2: Layers of %s, great: %d, %v", row.name, count, err)
			}
		}
	}
}

// TestGreatNot: nets that are not planar, as great as they may be, or nearly.
func TestGreatNot(t *testing.T) {
	must := made(t)
	r := rand.New(rand.NewSource(149))
	for _, row := range []struct {
		name string
		g    api.Net
	}{
		{"Stack, edges more", more(r, must(maker.Stack(1000, 8)), 78)},
		{"Grid and edges between", shuffled(t, r, more(r, must(maker.Grid(32, 32)), 60))},
		{"Random", must(maker.Random(1024, 3072, 5))},
		{"Random, few nodes", must(maker.Random(60, 3072, 6))},
		{"Complete(78)", must(maker.Complete(78))},
		{"a torus", torus(32, 32)},
	} {
		order := r.Perm(len(row.g.Edges))
		t.Run(row.name, func(t *testing.T) {
			t.Parallel()
			if kept := checkGreat(t, row.name, row.g, order); len(kept) == len(row.g.Edges) {
				t.Errorf("P14.1: Sub of %s, great: keeps all edges", row.name)
			}
		})
	}
}

// TestGreatKnown: great nets of which it is known how many edges are left out.
func TestGreatKnown(t *testing.T) {
	must := made(t)
	r := rand.New(rand.NewSource(150))
	apart, chain := of(0), core(t, 33)
	for range 204 {
		apart = must(net.Join(apart, core(t, 5)))
	}
	for range 169 {
		chain = hung(t, r, chain, core(t, 33))
	}
	for _, row := range []struct {
		name   string
		g      api.Net
		left   int
		layers int
	}{
		{"K5, split all over", split(t, r, core(t, 5), 1019), 1, 2},
		{"K3,3, split all over", split(t, r, core(t, 33), 1018), 1, 2},
		{"K5, side by side", apart, 204, 2},
		{"K3,3, one behind the other", chain, 170, 2},
		{"K5 and very many loops", with(core(t, 5), make([]int, 2*3062)...), 1, 2},
		{"each edge of Complete(5) very often", must(net.Sub(times(core(t, 5), 307), downFrom(3069))), 307, 2},
	} {
		kept := checkSub(t, row.name, row.g)
		if len(row.g.Edges)-len(kept) != row.left {
			t.Errorf("P14.1: Sub of %s: leaves out %d edges, not %d", row.name, len(row.g.Edges)-len(kept), row.left)
		}
		if count := checkLayers(t, row.name, row.g); count != row.layers {
			t.Errorf("P14.2: Layers of %s: %d, not %d", row.name, count, row.layers)
		}
		for _, e := range leftOut(row.g, kept)[:min(row.left, 3)] {
			checkWhy(t, row.name, row.g, kept, e)
		}
		other, err := Keep(row.g, r.Perm(len(row.g.Edges)))
		if len(other) != len(kept) || err != api.OK {
			t.Errorf("P14.1: Keep of %s in any order: %d edges, %v, not %d", row.name, len(other), err, len(kept))
		}
	}
}

// times is g with each of its edges so often, all of them once again each time.
func times(g api.Net, count int) api.Net {
	return api.Net{N: g.N, Edges: slices.Repeat(g.Edges, count)}
}
