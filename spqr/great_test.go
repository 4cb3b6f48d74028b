package spqr

import (
	"math/rand"
	"testing"

	"tracery/api"
	"tracery/maker"
	"tracery/net"
)

type greatNet struct {
	name                   string
	g                      api.Net
	rings, sheaves, rigids int
}

// great are nets as great as they may be, or nearly, and how many parts they have.
func great(t *testing.T) []greatNet {
	t.Helper()
	must := made(t)
	cycle, grid, stack := must(maker.Cycle(1024)), must(maker.Grid(32, 32)), must(maker.Stack(1024, 3))
	thrice := must(net.Join(of(0), cycle))
	thrice.Edges = append(append(thrice.Edges, cycle.Edges...), cycle.Edges...)
	return []greatNet{
		{"parallel edges", must(maker.Bond(3072)), 0, 1, 0},
		{"a cycle", cycle, 1, 0, 0},
		{"a cycle, each edge twice", doubled(cycle), 1, 1024, 0},
		{"a cycle, each edge thrice", thrice, 1, 1024, 0},
		{"a cycle with a chord", with(cycle, 17, 900), 2, 1, 0},
		{"a row of squares", must(maker.Grid(2, 512)), 511, 510, 0},
		{"two sides, two nodes on one", must(maker.Two(2, 1022)), 1022, 1, 0},
		{"two sides, three nodes on one", must(maker.Two(3, 1021)), 0, 0, 1},
		{"two sides", must(maker.Two(48, 64)), 0, 0, 1},
		{"a fan", fan(t, 1024), 1022, 1021, 0},
		{"a fan, its spokes twice", spokesTwice(t, 1024), 1022, 1022, 0},
		{"a grid", grid, 4, 0, 1},
		{"a grid, its corners joined", with(grid, 0, 31, 31, 1023, 1023, 992, 992, 0), 0, 0, 1},
		{"a wheel", must(maker.Wheel(1023)), 0, 0, 1},
		{"a prism", must(maker.Prism(512)), 0, 0, 1},
		{"a complete net", must(maker.Complete(78)), 0, 0, 1},
		{"triangles", stack, 0, 0, 1},
		{"triangles, each edge twice", doubled(must(maker.Stack(512, 4))), 0, 1530, 1},
		{"triangles, a node on an edge", must(net.Split(must(maker.Stack(1023, 5)), 1000)), 1, 0, 1},
		{"a necklace of K4 without an edge", necklace(341), 1, 0, 341},
	}
}

// spokesTwice is a fan with each edge of its first node beside the path twice.
func spokesTwice(t *testing.T, n int) api.Net {
	t.Helper()
	g := fan(t, n)
	for v := 2; v < n; v++ {
		g = with(g, v, 0)
	}
	return g
}

// necklace is so many K4 without an edge in a round, each with one node of the next one.
func necklace(beads int) api.Net {
	g := of(3 * beads)
	for i := range beads {
		a, b, c, d := 3*i, 3*i+1, 3*i+2, 3*((i+1)%beads)
		g.Edges = append(g.Edges, of(0, a, b, a, c, b, c, b, d, c, d).Edges...)
	}
	return g
}

func TestGreat(t *testing.T) {
	for i, row := range great(t) {
		t.Run(row.name, func(t *testing.T) {
			t.Parallel()
			g := shuffled(t, rand.New(rand.NewSource(int64(1700+i))), row.g)
			if count := counted(check(t, g)); count != [4]int{0, row.rings, row.sheaves, row.rigids} {
				t.Errorf("P16.1: the parts of %s: %v", row.name, count[1:])
			}
		})
	}
}

// TestGreatEars: cycles with long and short rows from node to node.
func TestGreatEars(t *testing.T) {
	r := rand.New(rand.NewSource(173))
	for i := range 4 {
		check(t, eared(t, r, 100+100*i))
	}
}

// TestGreatRefused: great nets that are not biconnected, by little.
func TestGreatRefused(t *testing.T) {
	must := made(t)
	for _, g := range []api.Net{
		with(must(maker.Cycle(1024)), 700, 700), wider(must(maker.Cycle(1023)), 1), must(maker.Path(1024)),
		with(wider(must(maker.Stack(1023, 6)), 1), 1023, 1), joined(net.Merge(must(net.Join(must(maker.Stack(500, 7)), must(maker.Stack(500, 8)))), 3, 700)),
	} {
		refused(t, g, api.ErrBicon)
	}
}
