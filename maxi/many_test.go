package maxi

import (
	"math/rand"
	"slices"
	"testing"

	"tracery/api"
	"tracery/maker"
	"tracery/net"
)

// TestMany: drawn nets of all sorts, loops and parallel edges among them.
func TestMany(t *testing.T) {
	r := rand.New(rand.NewSource(141))
	var count [2]int
	for i := range 900 {
		g := some(r, 5+i%8, 8+i%28)
		if i%2 == 0 {
			g = more(r, of(6+i%8), 20+i%20)
		}
		if kept := certified(t, r, "a drawn net", g); len(kept) == len(g.Edges) {
			count[0]++
		} else {
			count[1]++
		}
	}
	if count[0] < 200 || count[1] < 200 {
		t.Errorf("few of one sort: %v", count)
	}
}

// TestAllOrders: K5 and K3,3, and each with an edge split, in very many orders: just the last edge is left out, whichever it is.
func TestAllOrders(t *testing.T) {
	r := rand.New(rand.NewSource(142))
	for i := range 400 {
		g := split(t, r, core(t, nums(5, 33)[i%2]), i%5)
		order := r.Perm(len(g.Edges))
		want := leftOut(g, order[len(order)-1:])
		if kept, err := Keep(g, order); err != api.OK || !slices.Equal(kept, want) {
			t.Fatalf("P14.1: Keep of a subdivision, %v, by %v: %v, %v", g, order, kept, err)
		}
	}
}

// TestPlanar: of planar nets all edges are kept, in any order, in one layer; with edges more they are kept ahead of those.
func TestPlanar(t *testing.T) {
	must := made(t)
	r := rand.New(rand.NewSource(143))
	for i := range 12 {
		for _, g := range []api.Net{
			must(maker.Stack(6+2*i, uint64(i))), must(maker.Grid(2+i%4, 3+i%5)), must(maker.Prism(3 + i)), must(maker.Wheel(3 + i)),
			must(maker.Two(2, 1+i)), must(maker.Cycle(1 + i)), must(maker.Bond(1 + i)), must(maker.Path(1 + i)),
			hung(t, r, must(maker.Stack(8, uint64(i))), must(maker.Grid(3, 3)), of(1, 0, 0), must(maker.Wheel(4)), must(maker.Cycle(2))),
		} {
			g = shuffled(t, r, g)
			m := len(g.Edges)
			if kept := certified(t, r, "a planar net", g); len(kept) != m {
				t.Fatalf("P14.1: Sub of a planar net, %v: %v", g, kept)
			}
			if layer, count, err := Layers(g); slices.ContainsFunc(layer, func(l int) bool { return l != 0 }) || count != min(m, 1) || err != api.OK {
				t.Fatalf("P14.2: Layers of a planar net, %v: %v, %d, %v", g, layer, count, err)
			}
			kept := certified(t, r, "a planar net with edges more", more(r, g, 10))
			if len(kept) < m || !slices.Equal(kept[:m], upTo(m)) {
				t.Fatalf("P14.1: Sub of a planar net with edges more, %v: %v", g, kept)
			}
			certified(t, r, "a planar net with edges between", shuffled(t, r, more(r, g, 10)))
		}
	}
}

// TestComplete: of complete nets as many edges are kept as a planar net can have, in any order.
func TestComplete(t *testing.T) {
	must := made(t)
	r := rand.New(rand.NewSource(144))
	for n := 1; n <= 10; n++ {
		g := must(maker.Complete(n))
		want := min(len(g.Edges), max(3*n-6, 1))
		certified(t, r, "Complete", g)
		for range 20 {
			if kept, err := Keep(g, r.Perm(len(g.Edges))); len(kept) != want || err != api.OK {
				t.Errorf("P14.1: Keep(Complete(%d)): %v, %v", n, kept, err)
			}
		}
		for a := 1; a <= 6; a++ {
			g := must(maker.Two(a, n))
			kept := certified(t, r, "Two", g)
			if most := max(2*(a+n)-4, 1); (a <= 2 || n <= 2) != (len(kept) == len(g.Edges)) || min(a, n) > 2 && len(kept) > most {
				t.Errorf("P14.1: Sub(Two(%d, %d)): %v", a, n, kept)
			}
		}
	}
}

// TestGreatComplete: likewise of the greatest one.
func TestGreatComplete(t *testing.T) {
	r := rand.New(rand.NewSource(152))
	g := made(t)(maker.Complete(78))
	for _, order := range [][]int{upTo(3003), downFrom(3002), r.Perm(3003)} {
		if kept, err := Keep(g, order); len(kept) != 228 || err != api.OK {
			t.Errorf("P14.1: Keep(Complete(78)): %d edges, %v", len(kept), err)
		}
	}
}

// TestPetersen: Petersen's net, in many orders: it is not planar without any one edge.
func TestPetersen(t *testing.T) {
	r := rand.New(rand.NewSource(145))
	g := petersen()
	for range 60 {
		g = shuffled(t, r, g)
		if kept := certified(t, r, "Petersen's", g); len(kept) > 13 || len(kept) < 9 {
			t.Errorf("P14.1: Sub(Petersen's, %v): %v", g, kept)
		}
	}
}

// TestObstructions: many obstructions, in blocks and components of their own, and in one block; hidden among other edges.
func TestObstructions(t *testing.T) {
	must := made(t)
	r := rand.New(rand.NewSource(146))
	for i := range 40 {
		nets := []api.Net{must(maker.Grid(2, 3)), must(maker.Stack(6, uint64(i))), must(maker.Cycle(1 + i%3))}
		bad := 1 + i%4
		for k := range bad {
			nets = append(nets, split(t, r, core(t, nums(5, 33)[k%2]), r.Intn(4)))
		}
		r.Shuffle(len(nets), func(i, k int) { nets[i], nets[k] = nets[k], nets[i] })
		g := shuffled(t, r, hung(t, r, nets...))
		if kept := certified(t, r, "blocks of which some are not planar", g); len(g.Edges)-len(kept) != bad {
			t.Fatalf("P14.1: Sub of %d obstructions, %v: leaves out %v", bad, g, leftOut(g, kept))
		}
		if _, count, err := Layers(g); count != 2 || err != api.OK {
			t.Fatalf("P14.2: Layers of %d obstructions, %v: %d, %v", bad, g, count, err)
		}
		for v := range g.N {
			g = with(g, v, (v+1)%g.N)
		}
		certified(t, r, "several in one block", shuffled(t, r, g))
	}
	for _, g := range []api.Net{torus(4, 4), torus(5, 3), torus(6, 6), more(r, of(20), 150), more(r, of(40), 120)} {
		certified(t, r, "many in one block", g)
		certified(t, r, "many in one block", shuffled(t, r, g))
	}
}

// TestFollows: the part with any edge that was left out is not planar; loops are kept, and edges parallel to kept ones, and no others of
// those; each layer is planar.
func TestFollows(t *testing.T) {
	must := made(t)
	r := rand.New(rand.NewSource(147))
	for i := range 400 {
		g := more(r, of(5+i%7), 10+i%40)
		kept, err := Keep(g, r.Perm(len(g.Edges)))
		if err != api.OK || !isPlanar(t, g, kept...) {
			t.Fatalf("what follows: Keep(%v): %v, %v is not planar", g, kept, err)
		}
		for _, e := range leftOut(g, kept) {
			if isPlanar(t, g, append(slices.Clone(kept), e)...) {
				t.Fatalf("what follows: Keep(%v): %v is planar with %d", g, kept, e)
			}
		}
		for a, ends := range g.Edges {
			isKept := slices.Contains(kept, a)
			if ends[0] == ends[1] && !isKept {
				t.Fatalf("what follows: Keep(%v): %v, not the loop %d", g, kept, a)
			}
			for b, others := range g.Edges {
				if (others == ends || others == [2]int{ends[1], ends[0]}) && slices.Contains(kept, b) != isKept {
					t.Fatalf("what follows: Keep(%v): %v, of %d and %d one alone", g, kept, a, b)
				}
			}
		}
		layer, count, err := Layers(g)
		for k := range count {
			edges := slices.DeleteFunc(upTo(len(g.Edges)), func(e int) bool { return layer[e] != k })
			if err != api.OK || len(edges) == 0 || !isPlanar(t, must(net.Sub(g, edges)), upTo(len(edges))...) {
				t.Fatalf("what follows: Layers(%v): %v: layer %d is none or not planar", g, layer, k)
			}
		}
	}
}
