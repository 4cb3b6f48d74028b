package spqr

import (
	"math/rand"
	"slices"
	"testing"

	"tracery/api"
	"tracery/block"
	"tracery/maker"
	"tracery/net"
	"tracery/sepa"
)

// check: Of is the tree of parts by the words, its split pairs are those of doc/15, and Kinds tells of it; of nets that have none the error alone.
func check(t *testing.T, g api.Net) []api.Piece {
	t.Helper()
	ps, err := Of(g)
	if want := refusal(g); err != want || err != api.OK && len(ps) != 0 {
		t.Fatalf("P16.1: Of(%v): %v, %v, not %v", g, ps, err, want)
	}
	rings, sheaves, rigids, same := Kinds(g)
	if count := counted(ps); count != [4]int{0, rings, sheaves, rigids} || same != err {
		t.Fatalf("P16.1: Kinds(%v): %d %d %d, %v; Of: %v, %v", g, rings, sheaves, rigids, same, count, err)
	}
	if err != api.OK {
		return nil
	}
	if what := fault(g, ps); what != "" {
		t.Fatalf("P16.1: Of(%v): %v: %s", g, ps, what)
	}
	if pairs, _ := sepa.Splits(g); !slices.Equal(shown(ps), pairs) {
		t.Fatalf("W2: Of(%v): %v shows the pairs %v, not %v", g, ps, shown(ps), pairs)
	}
	return ps
}

func refusal(g api.Net) api.Errno {
	whole, err := block.Biconnected(g)
	switch {
	case err != api.OK:
		return err
	case !whole:
		return api.ErrBicon
	case len(g.Edges) < 3:
		return api.ErrSmall
	}
	return api.OK
}

// TestAllSimple: each simple net of up to 6 nodes; of those that are biconnected as many have one Rigid as are known to be of level 3.
func TestAllSimple(t *testing.T) {
	for n := range 7 {
		var all [][2]int
		for u := range n {
			for v := u + 1; v < n; v++ {
				all = append(all, [2]int{u, v})
			}
		}
		trees, rigids := 0, 0
		for set := range 1 << len(all) {
			g := api.Net{N: n}
			for e, ends := range all {
				if set>>e&1 == 1 {
					g.Edges = append(g.Edges, ends)
				}
			}
			ps := check(t, g)
			trees += min(len(ps), 1)
			if len(ps) == 1 && ps[0].Kind == api.Rigid {
				rigids++
			}
		}
		known := [][2]int{{0, 0}, {0, 0}, {0, 0}, {1, 0}, {10, 1}, {238, 26}, {11368, 1768}}[n]
		if got := [2]int{trees, rigids}; got != known {
			t.Errorf("P16.1: nets of %d nodes with a tree, with one Rigid: %v, not %v", n, got, known)
		}
	}
}

// TestAllWithParallels: each net of up to 4 nodes with up to three edges between each two nodes, and of each one in some order.
func TestAllWithParallels(t *testing.T) {
	r := rand.New(rand.NewSource(166))
	for n := 2; n <= 4; n++ {
		var kinds [][2]int
		for u := range n {
			for v := u + 1; v < n; v++ {
				kinds = append(kinds, [2]int{u, v})
			}
		}
		var lay func(g api.Net, rest [][2]int)
		lay = func(g api.Net, rest [][2]int) {
			if len(rest) == 0 {
				check(t, g)
				check(t, shuffled(t, r, g))
				return
			}
			for range 4 {
				lay(g, rest[1:])
				g = with(g, rest[0][0], rest[0][1])
			}
		}
		lay(of(n), kinds)
	}
}

// TestAllOrders: small nets with their edges in each order.
func TestAllOrders(t *testing.T) {
	for _, g := range []api.Net{
		of(4, 0, 1, 1, 2, 2, 3, 3, 0, 0, 2), of(4, 0, 1, 1, 2, 2, 3, 3, 0, 0, 1, 2, 3), of(4, 0, 2, 0, 1, 0, 3, 3, 1, 1, 2, 2, 1),
		of(3, 0, 1, 1, 2, 0, 2, 1, 0, 2, 1, 2, 0), of(4, 0, 1, 0, 2, 0, 3, 1, 2, 1, 3, 2, 3, 0, 1), of(5, 0, 2, 2, 1, 0, 3, 3, 1, 0, 4, 4, 1, 0, 1),
	} {
		var lay func(order []int)
		lay = func(order []int) {
			if len(order) == len(g.Edges) {
				check(t, made(t)(net.Sub(g, order)))
				return
			}
			for e := range g.Edges {
				if !slices.Contains(order, e) {
					lay(append(slices.Clone(order), e))
				}
			}
		}
		lay(nil)
	}
}

// TestMany: nets of all kinds of edges, many of which are not biconnected, and such as are.
func TestMany(t *testing.T) {
	r := rand.New(rand.NewSource(167))
	trees := 0
	for i := range 2500 {
		check(t, some(r, 2+i%9, 2+i%21))
		trees += min(len(check(t, loopless(r, 2+i%9, 2+i%21))), 1)
	}
	if trees < 300 {
		t.Errorf("too few trees: %d", trees)
	}
	for i := range 1500 {
		g := eared(t, r, i%8)
		check(t, g)
		check(t, more(r, g, r.Intn(4)))
	}
}

// TestMiddle: nets of some dozens of nodes.
func TestMiddle(t *testing.T) {
	r := rand.New(rand.NewSource(168))
	for i := range 40 {
		check(t, eared(t, r, 5+i%25))
		check(t, some(r, 40, 90))
		check(t, more(r, of(30), 60+i*2))
	}
}

// TestKinds: well-known nets, and each with others put together at two nodes.
func TestKinds(t *testing.T) {
	r := rand.New(rand.NewSource(169))
	list := kinds(t)
	for _, g := range list {
		check(t, g)
		check(t, shuffled(t, r, g))
		check(t, doubled(g))
		for range 6 {
			both := atTwo(t, r, g, list[r.Intn(len(list))])
			check(t, both)
			if len(both.Edges) > 0 {
				both = atTwo(t, r, both, list[r.Intn(len(list))])
				check(t, shuffled(t, r, both))
			}
		}
	}
}

// TestKnown: what is known of well-known nets: how many Rings, Sheaves and Rigids.
func TestKnown(t *testing.T) {
	must := made(t)
	for n := 3; n <= 12; n++ {
		cycle := must(maker.Cycle(n))
		known := []struct {
			name string
			g    api.Net
			want [3]int
		}{
			{"a cycle", cycle, [3]int{1, 0, 0}},
			{"parallel edges", must(maker.Bond(n)), [3]int{0, 1, 0}},
			{"a cycle, each edge twice", doubled(cycle), [3]int{1, n, 0}},
			{"a wheel", must(maker.Wheel(n)), [3]int{0, 0, 1}},
			{"a prism", must(maker.Prism(n)), [3]int{0, 0, 1}},
			{"a row of squares", must(maker.Grid(2, n)), [3]int{n - 1, n - 2, 0}},
			{"two sides, two nodes on one", must(maker.Two(2, n)), [3]int{n, 1, 0}},
			{"two sides, two nodes on one, joined", with(must(maker.Two(2, n)), 0, 1), [3]int{n, 1, 0}},
			{"two sides", must(maker.Two(n, 3)), [3]int{0, 0, 1}},
			{"a complete net", must(maker.Complete(n + 1)), [3]int{0, 0, 1}},
			{"a complete net, each edge twice", doubled(must(maker.Complete(n + 1))), [3]int{0, n * (n + 1) / 2, 1}},
			{"a grid, its corners Rings", must(maker.Grid(3, n)), [3]int{4, 0, 1}},
			{"a fan", fan(t, n), [3]int{n - 2, n - 3, 0}},
		}
		for _, row := range known {
			if count := counted(check(t, row.g)); [3]int(count[1:]) != row.want {
				t.Errorf("P16.1: the parts of %s, %d: %v, not %v", row.name, n, count[1:], row.want)
			}
		}
	}
}

// fan is a path whose first node has an edge to each of the others.
func fan(t *testing.T, n int) api.Net {
	t.Helper()
	g := made(t)(maker.Path(n))
	for v := 2; v < n; v++ {
		g = with(g, 0, v)
	}
	return g
}

// spoilt are lists of parts made of a tree of parts that are none of that net.
func spoilt(ps []api.Piece) [][]api.Piece {
	var list [][]api.Piece
	change := func(do func(ps []api.Piece)) {
		other := copied(ps)
		do(other)
		list = append(list, other)
	}
	for i, p := range ps {
		for _, kind := range nums(0, 1, 2, 3, 4) {
			if kind != p.Kind {
				change(func(ps []api.Piece) { ps[i].Kind = kind })
			}
		}
		change(func(ps []api.Piece) { ps[i].Edges = ps[i].Edges[1:] })
		change(func(ps []api.Piece) { ps[i].Nodes = ps[i].Nodes[1:] })
		change(func(ps []api.Piece) { slices.Reverse(ps[i].Nodes) })
		for k, b := range p.Edges {
			change(func(ps []api.Piece) { ps[i].Edges[k].A, ps[i].Edges[k].B = b.B, b.A })
			change(func(ps []api.Piece) { ps[i].Edges[k].Edge++ })
			change(func(ps []api.Piece) { ps[i].Edges[k].Twin++ })
			change(func(ps []api.Piece) { ps[i].Edges = append(ps[i].Edges, b) })
			if k > 0 {
				change(func(ps []api.Piece) { ps[i].Edges[k-1], ps[i].Edges[k] = b, p.Edges[k-1] })
			}
		}
	}
	list = append(list, nil, ps[1:], ps[:len(ps)-1], append(copied(ps), ps[0]))
	return list
}

// TestFaults: what looks at trees of parts finds the faults of others.
func TestFaults(t *testing.T) {
	r := rand.New(rand.NewSource(170))
	for i := range 60 {
		g := eared(t, r, 2+i%6)
		ps, _ := Of(g)
		for _, other := range spoilt(ps) {
			if fault(g, other) == "" {
				t.Fatalf("no fault of %v is found in %v", g, other)
			}
		}
		for k := range ps { // two numbers changed about
			if k == 0 {
				continue
			}
			other := copied(ps)
			other[k-1], other[k] = other[k], other[k-1]
			for x := range other {
				for y, b := range other[x].Edges {
					switch b.Twin {
					case k:
						other[x].Edges[y].Twin = k - 1
					case k - 1:
						other[x].Edges[y].Twin = k
					}
				}
				slices.SortFunc(other[x].Edges, byWords)
			}
			if what := faultOfNumbers(g, other); what == "" || !samePieces(inOrder(other), ps) {
				t.Fatalf("no fault of %v is found in the numbers of %v", g, other)
			}
		}
	}
}
