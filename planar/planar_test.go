package planar

import (
	"math"
	"slices"
	"testing"

	"tracery/api"
	"tracery/maker"
	"tracery/net"
)

// TestExamples: each row of the chapter's examples.
func TestExamples(t *testing.T) {
	must := made(t)
	for _, row := range []struct {
		name string
		g    api.Net
		want bool
	}{
		{"Complete(4)", must(maker.Complete(4)), true},
		{"Complete(5)", must(maker.Complete(5)), false},
		{"Two(3, 3)", must(maker.Two(3, 3)), false},
		{"Bond(7)", must(maker.Bond(7)), true},
	} {
		if is, err := Is(row.g); is != row.want || err != api.OK {
			t.Errorf("P13.1: Is(%s): %v, %v", row.name, is, err)
		}
	}
	if edges, err := Block(must(maker.Complete(5))); !slices.Equal(edges, nums(0, 1, 2, 3, 4, 5, 6, 7, 8, 9)) || err != api.OK {
		t.Errorf("P13.2: Block(Complete(5)): %v, %v", edges, err)
	}
	for _, none := range []api.Net{{}, {Edges: [][2]int{}}} {
		if v, err := Test(none); !v.Planar || len(v.Rot) != 0 || len(v.Edges) != 0 || err != api.OK {
			t.Errorf("P13.1: Test of no node: %v, %v", v, err)
		}
	}
}

// TestWrongNets: ErrArg of each call, ahead of whatever else is wrong.
func TestWrongNets(t *testing.T) {
	for _, g := range wrong() {
		for _, c := range calls() {
			if got := c.ask(g); got.err != api.ErrArg || !got.nothing() {
				t.Errorf("P13: %s(%d nodes, %d edges): %v", c.name, g.N, len(g.Edges), got)
			}
		}
		for _, u := range append(strange(), 0, 1) {
			for _, v := range append(strange(), 0, 1) {
				if is, err := With(g, u, v); is || err != api.ErrArg {
					t.Fatalf("P13: With(%d nodes, %d edges; %d, %d): %v, %v", g.N, len(g.Edges), u, v, is, err)
				}
			}
		}
	}
}

// TestRefused: ErrPlanar of Embed and ErrNone of Block, and nothing beside them.
func TestRefused(t *testing.T) {
	must := made(t)
	for _, g := range []api.Net{core(t, 5), core(t, 33), petersen(), must(maker.Complete(78)), must(maker.Two(48, 64))} {
		if r, err := Embed(g); len(r) != 0 || err != api.ErrPlanar {
			t.Errorf("P13.2: Embed of %d nodes and %d edges: %v, %v", g.N, len(g.Edges), r, err)
		}
	}
	for _, g := range []api.Net{of(0), of(1), of(1024), of(1, 0, 0), must(maker.Complete(4)), must(maker.Stack(1024, 1))} {
		if edges, err := Block(g); len(edges) != 0 || err != api.ErrNone {
			t.Errorf("P13.2: Block of %d nodes and %d edges: %v, %v", g.N, len(g.Edges), edges, err)
		}
	}
}

// TestWithRefused: ErrBounds of a node that there is not, ahead of ErrLimit of a net with 3,072 edges.
func TestWithRefused(t *testing.T) {
	must := made(t)
	full := api.Net{N: 4, Edges: make([][2]int, 3072)}
	for _, g := range []api.Net{of(0), of(1), of(4, 0, 1), core(t, 5), full, must(maker.Random(1024, 3072, 1))} {
		for _, x := range append(strange(), g.N, g.N+1) {
			if x >= 0 && x < g.N {
				continue
			}
			for _, pair := range [][2]int{{x, 0}, {0, x}, {x, x}} {
				if is, err := With(g, pair[0], pair[1]); is || err != api.ErrBounds {
					t.Errorf("P13.3: With(%d nodes, %d edges; %v): %v, %v", g.N, len(g.Edges), pair, is, err)
				}
			}
		}
	}
	for _, g := range []api.Net{full, must(maker.Bond(3072)), must(maker.Random(1024, 3072, 1)), must(maker.Two(48, 64))} {
		for _, pair := range [][2]int{{0, 0}, {0, g.N - 1}, {g.N - 1, 0}} {
			if is, err := With(g, pair[0], pair[1]); is || err != api.ErrLimit {
				t.Errorf("P13.3: With(%d nodes, 3,072 edges; %v): %v, %v", g.N, pair, is, err)
			}
		}
	}
	one := api.Net{N: 4, Edges: make([][2]int, 3071)}
	if is, err := With(one, 1, 2); !is || err != api.OK {
		t.Errorf("P13.3: With(3,071 edges): %v, %v", is, err)
	}
}

// TestWithRows: an edge more, where it is known what comes.
func TestWithRows(t *testing.T) {
	must := made(t)
	less := must(net.Sub(core(t, 5), nums(0, 1, 2, 3, 4, 5, 6, 7, 8)))
	for _, row := range []struct {
		name string
		g    api.Net
		u, v int
		want bool
	}{
		{"a loop at a node alone", of(1), 0, 0, true},
		{"two nodes", of(2), 0, 1, true},
		{"K5 without an edge, that edge", less, 3, 4, false},
		{"K5 without an edge, that edge the other way about", less, 4, 3, false},
		{"K5 without an edge, a parallel one", less, 0, 4, true},
		{"K5 without an edge, a loop", less, 3, 3, true},
		{"K5, a loop", core(t, 5), 2, 2, false},
		{"K3,3 without an edge, that edge", must(net.Sub(core(t, 33), nums(1, 2, 3, 4, 5, 6, 7, 8))), 0, 3, false},
		{"a grid, two corners", must(maker.Grid(5, 4)), 0, 19, true},
		{"a grid, two of its border", must(maker.Grid(5, 4)), 2, 15, true},
		{"a grid, its border and its midst", must(maker.Grid(5, 5)), 2, 12, false},
		{"a wheel, two of its rim", must(maker.Wheel(4)), 0, 2, true},
		{"a greater wheel, two of its rim", must(maker.Wheel(6)), 0, 3, true},
		{"a prism, across a face", must(maker.Prism(5)), 0, 6, true},
		{"a prism, across several", must(maker.Prism(5)), 0, 7, false},
		{"two components", must(net.Join(must(maker.Complete(4)), must(maker.Complete(4)))), 0, 7, true},
	} {
		if is, err := With(row.g, row.u, row.v); is != row.want || err != api.OK {
			t.Errorf("P13.3: With, %s: %v, %v", row.name, is, err)
		}
	}
}

// TestRows: nets of which it is known whether they are planar.
func TestRows(t *testing.T) {
	must := made(t)
	for _, row := range rows(t) {
		if is := certified(t, row.name, row.g); is != row.planar {
			t.Errorf("P13.1: %s: %v", row.name, is)
		}
	}
	for n := 1; n <= 12; n++ {
		if is := certified(t, "Complete", must(maker.Complete(n))); is != (n <= 4) {
			t.Errorf("P13.1: Complete(%d): %v", n, is)
		}
		for a := 1; a <= 8; a++ {
			if is := certified(t, "Two", must(maker.Two(a, n))); is != (a <= 2 || n <= 2) {
				t.Errorf("P13.1: Two(%d, %d): %v", a, n, is)
			}
		}
	}
}

type looked struct {
	name   string
	g      api.Net
	planar bool
}

func rows(t *testing.T) []looked {
	must := made(t)
	k5, k33 := core(t, 5), core(t, 33)
	join := func(a, b api.Net) api.Net { return must(net.Join(a, b)) }
	return []looked{
		{"no node", of(0), true},
		{"a node alone", of(1), true},
		{"nodes alone", of(7), true},
		{"as many nodes as may be", of(1024), true},
		{"a loop", of(1, 0, 0), true},
		{"loops at one node", of(1, 0, 0, 0, 0, 0, 0), true},
		{"loops at nodes apart", of(4, 2, 2, 0, 0, 2, 2), true},
		{"an edge", of(2, 0, 1), true},
		{"an edge the other way about", of(3, 2, 0), true},
		{"parallel edges", of(2, 0, 1, 1, 0, 0, 1), true},
		{"parallel edges and loops between", of(2, 0, 0, 1, 0, 0, 0, 0, 1, 1, 1, 1, 0), true},
		{"a row", must(maker.Path(9)), true},
		{"a star", of(5, 4, 0, 1, 4, 4, 2, 3, 4), true},
		{"a cycle of 1", must(maker.Cycle(1)), true},
		{"a cycle of 2", must(maker.Cycle(2)), true},
		{"a cycle", must(maker.Cycle(9)), true},
		{"two cycles with a node in common", of(5, 0, 1, 4, 3, 1, 2, 3, 2, 2, 0, 2, 4), true},
		{"two cycles with a bridge between", of(6, 3, 4, 0, 1, 2, 3, 1, 2, 4, 5, 0, 2, 5, 3), true},
		{"blocks of all kinds at one node", of(7, 0, 1, 0, 2, 2, 3, 3, 0, 0, 0, 4, 0, 0, 4, 0, 5, 5, 6, 6, 0, 5, 0, 0, 0), true},
		{"three times K4 at one node", of(10, 0, 1, 0, 2, 0, 3, 1, 2, 1, 3, 2, 3, 0, 4, 0, 5, 0, 6, 4, 5, 4, 6, 5, 6, 0, 7, 0, 8, 0, 9, 7, 8, 7, 9, 8, 9), true},
		{"K4 three times, one beside the other", join(join(must(maker.Complete(4)), must(maker.Complete(4))), must(maker.Complete(4))), true},
		{"the octahedron", of(6, 0, 1, 0, 2, 0, 3, 0, 4, 1, 2, 2, 3, 3, 4, 4, 1, 5, 1, 5, 2, 5, 3, 5, 4), true},
		{"the cube", must(maker.Prism(4)), true},
		{"the cube with its longest diagonal", with(must(maker.Prism(4)), 0, 6), false},
		{"K5 without an edge", must(net.Sub(k5, nums(9, 8, 7, 6, 5, 4, 3, 2, 1))), true},
		{"K3,3 without an edge", must(net.Sub(k33, nums(8, 7, 6, 5, 4, 3, 2, 1))), true},
		{"K5 without an edge, that edge split", with(wider(must(net.Sub(k5, nums(0, 1, 2, 3, 4, 5, 6, 7, 8))), 1), 3, 5, 5, 4), false},
		{"K5, loops and parallel edges", with(k5, 0, 0, 1, 0, 4, 3, 2, 2, 0, 1), false},
		{"K3,3, loops and parallel edges", with(k33, 0, 0, 5, 2, 0, 3, 3, 3), false},
		{"K5 twice", join(k5, k5), false},
		{"K3,3 twice", join(k33, k33), false},
		{"K3,3 behind a net that is planar", join(join(must(maker.Grid(4, 4)), k33), of(2)), false},
		{"K5 and K3,3 with a node in common", joined(net.Merge(join(k5, k33), 2, 7)), false},
		{"K5 and K3,3 with two nodes in common", joined(net.Merge(joined(net.Merge(join(k5, k33), 2, 7)), 3, 5)), false},
		{"K5 and K3,3 with a bridge between", with(join(k33, k5), 0, 7), false},
		{"K5 and K3,3 with two edges between", with(join(k33, k5), 0, 7, 2, 8), false},
		{"K5, and a tree that hangs there", with(wider(k5, 4), 0, 5, 5, 6, 5, 7, 8, 2), false},
		{"Petersen's", petersen(), false},
		{"Petersen's without an edge", must(net.Sub(petersen(), nums(14, 13, 12, 11, 10, 9, 8, 7, 6, 5, 4, 3, 2, 1))), false},
		{"Petersen's without two edges", must(net.Sub(petersen(), nums(1, 3, 4, 5, 6, 7, 8, 9, 10, 11, 12, 13, 14))), true},
		{"a ladder put together with a twist", twisted(8), false},
		{"two nodes, each with each of many", must(maker.Two(2, 40)), true},
		{"three nodes, each with each of many", must(maker.Two(3, 40)), false},
	}
}

// strange are numbers that are no node of any net.
func strange() []int {
	return nums(-1, -2, -1<<32, 1<<32, 1024, 3072, math.MinInt, math.MinInt+1, math.MaxInt, math.MaxInt-1)
}

// wrong are nets that may not be.
func wrong() []api.Net {
	list := []api.Net{
		{N: -1}, {N: math.MinInt}, {N: 1025}, {N: math.MaxInt}, {N: 1 << 32},
		of(0, 0, 0), of(-1, 0, 0), of(1025, 0, 1), of(1, 0, 1), of(1, 1, 0), of(3, 0, 1, 1, 2, 3, 3),
		{N: 1, Edges: make([][2]int, 3073)}, {N: 1024, Edges: make([][2]int, 5000)},
	}
	for _, x := range strange() {
		list = append(list, of(4, 0, x), of(4, x, 0), of(4, x, x), of(4, 0, 1, 2, 3, 1, x), of(4, x, 1, 2, 3))
	}
	return list
}

// TestOnlyOwn: a search hands on what it did not throw itself: a fault is not taken for a verdict.
func TestOnlyOwn(t *testing.T) {
	defer func() {
		if recover() == nil {
			t.Error("a fault inside was taken for a verdict")
		}
	}()
	settled(piece{net: of(2, 0, 1, 1, 7)})
}
