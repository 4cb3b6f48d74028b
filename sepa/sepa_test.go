package sepa

import (
	"math/rand"
	"slices"
	"testing"

	"tracery/api"
	"tracery/maker"
	"tracery/net"
)

// TestExamples: the chapter's rows.
func TestExamples(t *testing.T) {
	must := made(t)
	for _, row := range []struct {
		g    api.Net
		want int
	}{
		{must(maker.Complete(4)), 3}, {must(maker.Cycle(5)), 2}, {must(maker.Path(3)), 1},
		{must(maker.Complete(2)), 1}, {must(maker.Bond(3)), 1}, {of(0), 0},
	} {
		if level, err := Level(row.g); level != row.want || err != api.OK {
			t.Errorf("P15.1: Level(%v): %d, %v, not %d", row.g, level, err, row.want)
		}
	}
	c4 := must(maker.Cycle(4))
	if pairs, err := Pairs(c4); !slices.Equal(pairs, two(0, 2, 1, 3)) || err != api.OK {
		t.Errorf("P15.2: Pairs(Cycle(4)): %v, %v", pairs, err)
	}
	for _, row := range []struct {
		g    api.Net
		want [][2]int
	}{
		{c4, two(0, 2, 1, 3)}, {must(maker.Cycle(3)), nil}, {must(maker.Bond(4)), two(0, 1)}, {must(maker.Bond(3)), nil},
	} {
		if splits, err := Splits(row.g); !slices.Equal(splits, row.want) || err != api.OK {
			t.Errorf("P15.4: Splits(%v): %v, %v, not %v", row.g, splits, err, row.want)
		}
	}
	if classes, err := Classes(c4, 0, 2); !sameLists(classes, [][]int{{0, 1}, {2, 3}}) || err != api.OK {
		t.Errorf("P15.3: Classes(Cycle(4), 0, 2): %v, %v", classes, err)
	}
	if classes, err := Classes(must(maker.Bond(2)), 0, 1); !sameLists(classes, [][]int{{0}, {1}}) || err != api.OK {
		t.Errorf("P15.3: Classes(Bond(2), 0, 1): %v, %v", classes, err)
	}
}

type looked struct {
	name   string
	g      api.Net
	level  int
	pairs  [][2]int
	whole  bool // biconnected
	splits [][2]int
}

// rows are nets of which the answers are known by hand.
func rows(t *testing.T) []looked {
	must := made(t)
	k4, k5, k33 := must(maker.Complete(4)), must(maker.Complete(5)), must(maker.Two(3, 3))
	theta := of(5, 0, 2, 2, 1, 0, 3, 3, 1, 0, 4, 4, 1)
	return []looked{
		{"no node", of(0), 0, nil, false, nil},
		{"a node alone", of(1), 0, nil, false, nil},
		{"a node with loops", of(1, 0, 0, 0, 0), 0, nil, false, nil},
		{"two nodes alone", of(2), 0, nil, false, nil},
		{"two nodes with loops", of(2, 0, 0, 1, 1), 0, nil, false, nil},
		{"an edge", of(2, 0, 1), 1, nil, true, nil},
		{"an edge the other way about", of(2, 1, 0), 1, nil, true, nil},
		{"an edge with a loop", of(2, 0, 1, 1, 1), 1, nil, false, nil},
		{"two parallel edges", of(2, 0, 1, 1, 0), 1, nil, true, nil},
		{"three parallel edges", of(2, 0, 1, 1, 0, 0, 1), 1, nil, true, nil},
		{"four parallel edges", of(2, 0, 1, 1, 0, 0, 1, 1, 0), 1, nil, true, two(0, 1)},
		{"four parallel edges and a loop", of(2, 0, 1, 1, 0, 0, 0, 0, 1, 1, 0), 1, nil, false, nil},
		{"an edge beside a node", of(3, 0, 2), 0, nil, false, nil},
		{"a row of three", of(3, 2, 0, 0, 1), 1, nil, false, nil},
		{"a row of three, each edge twice", of(3, 2, 0, 0, 1, 0, 2, 1, 0), 1, nil, false, nil},
		{"a star", of(5, 4, 0, 1, 4, 4, 2, 3, 4), 1, nil, false, nil},
		{"a cycle of three", of(3, 2, 0, 0, 1, 2, 1), 2, nil, true, nil},
		{"a cycle of three with a loop", of(3, 2, 0, 1, 1, 0, 1, 2, 1), 2, nil, false, nil},
		{"a cycle of three, an edge twice", of(3, 2, 0, 0, 1, 2, 1, 2, 0), 2, nil, true, two(0, 2)},
		{"a cycle of three, each edge twice", of(3, 2, 0, 0, 1, 2, 1, 1, 0, 1, 2, 0, 2), 2, nil, true, two(0, 1, 0, 2, 1, 2)},
		{"a cycle of three, an edge thrice", of(3, 2, 0, 0, 1, 2, 1, 2, 0, 0, 2), 2, nil, true, two(0, 2)},
		{"a cycle of three beside a node", of(4, 0, 1, 1, 3, 3, 0), 0, nil, false, nil},
		{"a cycle of three and a node that hangs there", of(4, 0, 1, 1, 3, 3, 0, 2, 3), 1, nil, false, nil},
		{"a cycle of four with a loop", of(4, 0, 1, 2, 2, 1, 2, 2, 3, 3, 0), 2, two(0, 2, 1, 3), false, nil},
		{"a cycle of four, one chord", of(4, 0, 1, 1, 2, 2, 3, 3, 0, 2, 0), 2, two(0, 2), true, two(0, 2)},
		{"a cycle of four, a chord twice", of(4, 0, 1, 1, 2, 2, 3, 3, 0, 2, 0, 0, 2), 2, two(0, 2), true, two(0, 2)},
		{"a cycle of four, an edge twice", of(4, 0, 1, 1, 2, 3, 2, 3, 0, 2, 3), 2, two(0, 2, 1, 3), true, two(0, 2, 1, 3, 2, 3)},
		{"a cycle of five", of(5, 0, 3, 3, 1, 1, 4, 4, 2, 2, 0), 2, two(0, 1, 0, 4, 1, 2, 2, 3, 3, 4), true, two(0, 1, 0, 4, 1, 2, 2, 3, 3, 4)},
		{"three ways between two nodes", theta, 2, two(0, 1), true, two(0, 1)},
		{"three ways between two nodes, and an edge", with(theta, 1, 0), 2, two(0, 1), true, two(0, 1)},
		{"K4", k4, 3, nil, true, nil},
		{"K4 with loops", with(k4, 1, 1, 3, 3), 3, nil, false, nil},
		{"K4, an edge twice", with(k4, 3, 1), 3, nil, true, two(1, 3)},
		{"K4 beside a node", wider(k4, 1), 0, nil, false, nil},
		{"K4 and a node on an edge", must(net.Split(k4, 5)), 2, two(2, 3), true, two(2, 3)},
		{"K4 twice", must(net.Join(k4, k4)), 0, nil, false, nil},
		{"K4 twice with a node in common", joined(net.Merge(must(net.Join(k4, k4)), 1, 6)), 1, nil, false, nil},
		{"K4 twice with a bridge between", with(must(net.Join(k4, k4)), 0, 7), 1, nil, false, nil},
		{"K4 twice with two edges between", with(must(net.Join(k4, k4)), 0, 7, 1, 6), 2, two(0, 1, 0, 6, 1, 7, 6, 7), true, two(0, 1, 0, 6, 1, 7, 6, 7)},
		{"K4 twice with three edges between", with(must(net.Join(k4, k4)), 0, 7, 1, 6, 2, 5), 3, nil, true, nil},
		{"K5", k5, 3, nil, true, nil},
		{"K3,3", k33, 3, nil, true, nil},
		{"K3,3, each edge twice", doubled(k33), 3, nil, true, two(0, 3, 0, 4, 0, 5, 1, 3, 1, 4, 1, 5, 2, 3, 2, 4, 2, 5)},
		{"Petersen's", petersen(), 3, nil, true, nil},
		{"a wheel", must(maker.Wheel(6)), 3, nil, true, nil},
		{"a wheel without a spoke", must(net.Sub(must(maker.Wheel(4)), nums(0, 1, 2, 3, 4, 5, 6))), 2, two(0, 2), true, two(0, 2)},
		{"a prism", must(maker.Prism(3)), 3, nil, true, nil},
		{"a grid, its corners cut off alone", must(maker.Grid(3, 3)), 2, two(1, 3, 1, 5, 3, 7, 5, 7), true, two(1, 3, 1, 5, 3, 7, 5, 7)},
		{"a greater grid", must(maker.Grid(4, 4)), 2, two(1, 4, 2, 7, 8, 13, 11, 14), true, two(1, 4, 2, 7, 8, 13, 11, 14)},
	}
}

func TestRows(t *testing.T) {
	for _, row := range rows(t) {
		if level, err := Level(row.g); level != row.level || err != api.OK {
			t.Errorf("P15.1: Level of %s: %d, %v, not %d", row.name, level, err, row.level)
		}
		want := api.OK
		if row.level < 2 {
			want = api.ErrBicon
		}
		if pairs, err := Pairs(row.g); !slices.Equal(pairs, row.pairs) || err != want {
			t.Errorf("P15.2: Pairs of %s: %v, %v, not %v", row.name, pairs, err, row.pairs)
		}
		want = api.OK
		if !row.whole {
			want = api.ErrBicon
		}
		if splits, err := Splits(row.g); !slices.Equal(splits, row.splits) || err != want {
			t.Errorf("P15.4: Splits of %s: %v, %v, not %v", row.name, splits, err, row.splits)
		}
		check(t, row.g)
	}
}

// TestClassRows: classes that are known by hand.
func TestClassRows(t *testing.T) {
	must := made(t)
	k4 := must(maker.Complete(4))
	for _, row := range []struct {
		name string
		g    api.Net
		u, v int
		want [][]int
	}{
		{"nodes alone", of(5), 3, 1, nil},
		{"a loop at u", of(2, 0, 0), 0, 1, [][]int{{0}}},
		{"a loop at v", of(2, 0, 0), 1, 0, [][]int{{0}}},
		{"a loop elsewhere", of(3, 0, 0), 1, 2, [][]int{{0}}},
		{"loops everywhere", of(3, 2, 2, 0, 0, 2, 2, 1, 1, 0, 0), 0, 1, [][]int{{0}, {1}, {2}, {3}, {4}}},
		{"parallel edges either way about", of(2, 0, 1, 1, 0, 0, 1), 0, 1, [][]int{{0}, {1}, {2}}},
		{"parallel edges and loops between", of(2, 0, 1, 1, 1, 1, 0, 0, 0), 1, 0, [][]int{{0}, {1}, {2}, {3}}},
		{"parallel edges from u alone", of(3, 2, 0, 0, 2, 2, 0), 0, 1, [][]int{{0, 1, 2}}},
		{"parallel edges far from both", of(4, 2, 3, 3, 2), 0, 1, [][]int{{0, 1}}},
		{"a row through u and v", of(5, 3, 4, 0, 1, 2, 3, 1, 2), 1, 3, [][]int{{0}, {1}, {2, 3}}},
		{"a row, u at its end", of(4, 2, 3, 0, 1, 1, 2), 0, 2, [][]int{{0}, {1, 2}}},
		{"a loop between edges of a class", of(4, 0, 2, 2, 2, 2, 3, 3, 3, 3, 1), 0, 1, [][]int{{0, 2, 4}, {1}, {3}}},
		{"components that neither touches", of(9, 3, 4, 5, 6, 0, 2, 6, 5, 4, 3, 2, 1, 7, 7, 0, 1), 1, 0, [][]int{{0, 4}, {1, 3}, {2, 5}, {6}, {7}}},
		{"three ways between u and v, and edges", of(5, 2, 1, 1, 0, 3, 0, 0, 2, 4, 1, 0, 1, 3, 1, 0, 4), 0, 1, [][]int{{0, 3}, {1}, {2, 6}, {4, 7}, {5}}},
		{"K4, any two", k4, 1, 3, [][]int{{0, 1, 2, 3, 5}, {4}}},
		{"u is no cut, v is one", of(5, 0, 1, 1, 2, 2, 0, 2, 3, 3, 4, 4, 2), 2, 0, [][]int{{0, 1}, {2}, {3, 4, 5}}},
	} {
		if classes, err := Classes(row.g, row.u, row.v); !sameLists(classes, row.want) || err != api.OK {
			t.Errorf("P15.3: Classes of %s: %v, %v, not %v", row.name, classes, err, row.want)
		}
		check(t, row.g)
	}
}

// TestNoNet: ErrArg of nets that may not be, ahead of any other error, and zero values with it.
func TestNoNet(t *testing.T) {
	for _, g := range wrong() {
		if level, err := Level(g); level != 0 || err != api.ErrArg {
			t.Errorf("P15.1: Level of %d nodes, %d edges: %d, %v", g.N, len(g.Edges), level, err)
		}
		if pairs, err := Pairs(g); len(pairs) != 0 || err != api.ErrArg {
			t.Errorf("P15.2: Pairs of %d nodes, %d edges: %v, %v", g.N, len(g.Edges), pairs, err)
		}
		for _, u := range append(strange(), 0, 1) {
			for _, v := range append(strange(), 0, 1) {
				if classes, err := Classes(g, u, v); len(classes) != 0 || err != api.ErrArg {
					t.Errorf("P15.3: Classes of %d nodes, %d edges, %d, %d: %v, %v", g.N, len(g.Edges), u, v, classes, err)
				}
			}
		}
		if splits, err := Splits(g); len(splits) != 0 || err != api.ErrArg {
			t.Errorf("P15.4: Splits of %d nodes, %d edges: %v, %v", g.N, len(g.Edges), splits, err)
		}
	}
}

// TestNoNodes: ErrBounds of nodes that are not there, or are the same.
func TestNoNodes(t *testing.T) {
	must := made(t)
	for _, g := range []api.Net{of(0), of(1), of(1, 0, 0), of(2, 0, 1), must(maker.Cycle(4)), must(maker.Complete(5)), of(6, 1, 1)} {
		beyond := append(strange(), g.N, g.N+1)
		for _, x := range beyond {
			for _, y := range append(beyond, 0, 1, g.N-1) {
				for _, ends := range two(x, y, y, x, x, x) {
					if classes, err := Classes(g, ends[0], ends[1]); len(classes) != 0 || err != api.ErrBounds {
						t.Errorf("P15.3: Classes(%v, %v): %v, %v", g, ends, classes, err)
					}
				}
			}
		}
		for v := range g.N {
			if classes, err := Classes(g, v, v); len(classes) != 0 || err != api.ErrBounds {
				t.Errorf("P15.3: Classes(%v, %d, %d): %v, %v", g, v, v, classes, err)
			}
		}
	}
}

// TestWhatFollows: a net of level 3 without parallel edges has no split pair, and each pair that separates is one.
func TestWhatFollows(t *testing.T) {
	r := rand.New(rand.NewSource(156))
	list := kinds(t)
	for i := range 600 {
		list = append(list, eared(t, r, i%12), more(r, of(5+i%6), 12+i%20))
	}
	third, second := 0, 0
	for _, g := range list {
		bare, _, _ := net.Bare(g)
		level, _ := Level(bare)
		pairs, _ := Pairs(bare)
		splits, err := Splits(bare)
		if level == 3 {
			third++
			if len(pairs) != 0 || len(splits) != 0 || err != api.OK {
				t.Fatalf("P15.4: %v, of level 3: pairs %v, split pairs %v, %v", bare, pairs, splits, err)
			}
		}
		whole, err := Splits(g)
		if err != api.OK {
			continue
		}
		second++
		for _, pair := range pairs {
			if !slices.Contains(splits, pair) || !slices.Contains(whole, pair) {
				t.Fatalf("P15.4: %v: %v separates it, but the split pairs are %v", g, pair, whole)
			}
		}
	}
	if third < 100 || second < 500 {
		t.Errorf("too few nets of a sort: %d of level 3, %d biconnected", third, second)
	}
}
