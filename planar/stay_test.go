package planar

import (
	"math/rand"
	"slices"
	"testing"

	"tracery/api"
	"tracery/block"
	"tracery/maker"
	"tracery/net"
)

// either are nets of either sort.
func either(t *testing.T, r *rand.Rand) []api.Net {
	t.Helper()
	must := made(t)
	list := []api.Net{
		must(maker.Stack(25, 4)), must(maker.Stack(40, 5)), must(maker.Grid(4, 5)), must(maker.Grid(7, 8)),
		must(maker.Prism(6)), must(maker.Prism(15)), must(maker.Wheel(7)), petersen(), twisted(8),
	}
	for _, row := range rows(t) {
		if row.g.N < 100 {
			list = append(list, row.g)
		}
	}
	for range 60 {
		list = append(list, some(r, 10, 24), drawn(r, 8, 14), hung(t, r, wider(some(r, 7, 15), 1), wider(some(r, 7, 15), 1)))
	}
	return list
}

// TestStays: what is planar stays so, and what is not, when nodes are named anew, edges are split, turned about or stand in another order.
func TestStays(t *testing.T) {
	must := made(t)
	r := rand.New(rand.NewSource(135))
	for _, g := range either(t, r) {
		want := certified(t, "a net", g)
		others := []struct {
			name string
			g    api.Net
		}{
			{"moved", must(net.Moved(g, r.Perm(g.N)))},
			{"its edges turned about", turned(r, g)},
			{"its edges in another order", must(net.Sub(g, r.Perm(len(g.Edges))))},
			{"all of that", shuffled(t, r, g)},
			{"nodes more", wider(g, 3)},
		}
		if len(g.Edges) > 0 {
			others = append(others, others[0], others[0])[:7]
			others[5].name, others[5].g = "an edge split", split(t, r, g, 1)
			others[6].name, others[6].g = "many edges split", shuffled(t, r, split(t, r, g, 30))
		}
		for _, other := range others {
			if certified(t, other.name, other.g) != want {
				t.Fatalf("what follows: %v: planar %v; not so %s", g, want, other.name)
			}
		}
	}
}

// TestBlocks: a net is planar just if each of its blocks is.
func TestBlocks(t *testing.T) {
	r := rand.New(rand.NewSource(136))
	for _, g := range either(t, r) {
		b, err := block.Blocks(g)
		if err != api.OK {
			t.Fatalf("Blocks(%v): %v", g, err)
		}
		all := true
		for k := range b.Count {
			var edges []int
			for e, of := range b.Of {
				if of == k {
					edges = append(edges, e)
				}
			}
			all = certified(t, "a block", made(t)(net.Sub(g, edges))) && all
		}
		if certified(t, "all blocks", g) != all {
			t.Fatalf("what follows: %v: its blocks are planar: %v", g, all)
		}
	}
}

// TestParts: whatever is part of a planar net is planar; and what has one that is not, is not.
func TestParts(t *testing.T) {
	r := rand.New(rand.NewSource(137))
	for _, g := range either(t, r) {
		whole := certified(t, "a net", g)
		for range 10 {
			order := r.Perm(len(g.Edges))
			sub := made(t)(net.Sub(g, order[:r.Intn(len(order)+1)]))
			if !certified(t, "a part", sub) && whole {
				t.Fatalf("what follows: %v is planar, its part %v is not", g, sub)
			}
		}
	}
}

// TestNeeded: of the edges that are told none can be spared, alone they are not planar, and the others do not matter.
func TestNeeded(t *testing.T) {
	r := rand.New(rand.NewSource(138))
	for _, g := range either(t, r) {
		edges, err := Block(g)
		if err != api.OK {
			continue
		}
		if certified(t, "an obstruction", made(t)(net.Sub(g, edges))) {
			t.Fatalf("P13.2: Block(%v): %v are planar", g, edges)
		}
		for at := range edges {
			less := slices.Delete(slices.Clone(edges), at, at+1)
			if !certified(t, "an obstruction without an edge", made(t)(net.Sub(g, less))) {
				t.Fatalf("P13.2: Block(%v): %v are not planar", g, less)
			}
		}
	}
}

// TestWith: an edge more, against the verdict on the net with that edge; and what it does to a planar net, and to one that is not.
func TestWith(t *testing.T) {
	r := rand.New(rand.NewSource(139))
	var count [2]int
	for _, g := range either(t, r) {
		was := certified(t, "a net", g)
		for u := range g.N {
			for v := range g.N {
				if g.N > 6 && r.Intn(g.N) > 2 {
					continue
				}
				is, err := With(g, u, v)
				if more := certified(t, "a net with an edge more", with(g, u, v)); is != more || err != api.OK {
					t.Fatalf("P13.3: With(%v, %d, %d): %v, %v, not %v", g, u, v, is, err, more)
				}
				if u == v && is != was || is && !was {
					t.Fatalf("P13.3: With(%v, %d, %d): %v, and %v without", g, u, v, is, was)
				}
				if was && is {
					count[0]++
				} else if was {
					count[1]++
				}
			}
		}
		for e, ends := range g.Edges {
			if is, err := With(g, ends[1], ends[0]); is != was || err != api.OK {
				t.Fatalf("P13.3: With(%v), parallel to the edge %d: %v, %v", g, e, is, err)
			}
		}
	}
	if count[0] < 200 || count[1] < 200 {
		t.Errorf("few of one sort: %v", count)
	}
}
