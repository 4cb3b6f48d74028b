package sepa

import (
	"math/rand"
	"slices"
	"testing"

	"tracery/api"
	"tracery/maker"
	"tracery/net"
)

type greatNet struct {
	name   string
	g      api.Net
	level  int
	pairs  int // how many
	whole  bool
	splits int // how many
}

// great are nets as great as they may be, or nearly, and how much is known of them.
func great(t *testing.T) []greatNet {
	t.Helper()
	must, r := made(t), rand.New(rand.NewSource(159))
	cycle, grid, stack := must(maker.Cycle(1024)), must(maker.Grid(32, 32)), must(maker.Stack(1024, 3))
	bonds := must(maker.Cycle(1024))
	bonds.Edges = slices.Concat(bonds.Edges, bonds.Edges, bonds.Edges)
	chords := 1024*1021/2 + 1024
	return []greatNet{
		{"nodes alone", of(1024), 0, 0, false, 0},
		{"loops", api.Net{N: 1024, Edges: make([][2]int, 3072)}, 0, 0, false, 0},
		{"loops of one node", api.Net{N: 1, Edges: make([][2]int, 3072)}, 0, 0, false, 0},
		{"a row", must(maker.Path(1024)), 1, 0, false, 0},
		{"parallel edges", must(maker.Bond(3072)), 1, 0, true, 1},
		{"a cycle", cycle, 2, 1024 * 1021 / 2, true, 1024 * 1021 / 2},
		{"a cycle, each edge thrice", bonds, 2, 1024 * 1021 / 2, true, chords},
		{"a cycle beside a node", wider(must(maker.Cycle(1023)), 1), 0, 0, false, 0},
		{"a cycle with a loop", with(cycle, 700, 700), 2, 1024 * 1021 / 2, false, 0},
		{"a grid", grid, 2, 4, true, 4},
		{"a grid, shuffled", shuffled(t, r, grid), 2, 4, true, 4},
		{"a grid, its corners joined", with(grid, 0, 31, 31, 1023, 1023, 992, 992, 0), 3, 0, true, 0},
		{"two sides, two nodes on one", must(maker.Two(2, 1022)), 2, 1, true, 1},
		{"two sides, three nodes on one", must(maker.Two(3, 1021)), 3, 0, true, 0},
		{"two sides", must(maker.Two(48, 64)), 3, 0, true, 0},
		{"a complete net", must(maker.Complete(78)), 3, 0, true, 0},
		{"a wheel", must(maker.Wheel(1023)), 3, 0, true, 0},
		{"a prism", must(maker.Prism(512)), 3, 0, true, 0},
		{"triangles", stack, 3, 0, true, 0},
		{"triangles, shuffled, with loops", shuffled(t, r, with(stack, 5, 5, 9, 9)), 3, 0, false, 0},
		{"triangles, each edge twice", doubled(must(maker.Stack(512, 4))), 3, 0, true, 1530},
		{"triangles, a node on an edge", must(net.Split(must(maker.Stack(1023, 5)), 1000)), 2, 1, true, 1},
		{"triangles, a node that hangs there", with(wider(must(maker.Stack(1023, 6)), 1), 1023, 1), 1, 0, false, 0},
	}
}

func TestGreat(t *testing.T) {
	for i, row := range great(t) {
		t.Run(row.name, func(t *testing.T) {
			t.Parallel() // each takes some seconds
			checkGreat(t, rand.New(rand.NewSource(int64(1600+i))), row)
		})
	}
}

func checkGreat(t *testing.T, r *rand.Rand, row greatNet) {
	t.Helper()
	if level, err := Level(row.g); level != row.level || err != api.OK {
		t.Errorf("P15.1: Level of %s: %d, %v, not %d", row.name, level, err, row.level)
	}
	pairs, err := Pairs(row.g)
	if len(pairs) != row.pairs || (err == api.OK) != (row.level >= 2) || err != api.OK && err != api.ErrBicon {
		t.Errorf("P15.2: Pairs of %s: %d, %v, not %d", row.name, len(pairs), err, row.pairs)
	}
	splits, err := Splits(row.g)
	if len(splits) != row.splits || (err == api.OK) != row.whole || err != api.OK && err != api.ErrBicon {
		t.Errorf("P15.4: Splits of %s: %d, %v, not %d", row.name, len(splits), err, row.splits)
	}
	if row.g.N >= 2 {
		checkSome(t, r, row, pairs, splits)
	}
}

// checkSome holds the pairs of some nodes with all others against the words, and some classes.
func checkSome(t *testing.T, r *rand.Rand, row greatNet, pairs, splits [][2]int) {
	t.Helper()
	checkOrder(t, row, pairs)
	checkOrder(t, row, splits)
	s, g := look(row.g), row.g
	for range 3 {
		u := r.Intn(g.N)
		for v := range g.N {
			pair := [2]int{min(u, v), max(u, v)}
			if _, is := slices.BinarySearchFunc(pairs, pair, ends); u != v && row.level >= 2 && is == s.connected(u, v) {
				t.Errorf("P15.2: Pairs of %s: %v: %v", row.name, pair, is)
			}
		}
	}
	for range 60 {
		u := r.Intn(g.N)
		v := (u + 1 + r.Intn(g.N-1)) % g.N
		if len(g.Edges) > 0 && r.Intn(2) == 0 { // such as an edge joins
			if ends := g.Edges[r.Intn(len(g.Edges))]; !isLoop(ends) {
				u, v = ends[0], ends[1]
			}
		}
		want := classesOf(g, u, v)
		if classes, err := Classes(g, u, v); !sameLists(classes, want) || err != api.OK {
			t.Errorf("P15.3: Classes of %s, %d, %d: %d classes, %v, not %d", row.name, u, v, len(classes), err, len(want))
		}
		_, is := slices.BinarySearchFunc(splits, [2]int{min(u, v), max(u, v)}, ends)
		if row.whole && is != splitting(len(g.Edges), want) {
			t.Errorf("P15.4: Splits of %s: %d, %d: %v", row.name, u, v, is)
		}
	}
}

// splitting is halves without a try of each number of edges, of which there are too many here:
// a class of two edges or more is best kept alone, and else any two classes do.
func splitting(m int, classes [][]int) bool {
	for _, class := range classes {
		if len(class) >= 2 {
			return slices.ContainsFunc(classes, func(c []int) bool { return len(c) >= 2 && m-len(c) >= 2 })
		}
	}
	return m >= 4
}

// checkOrder: pairs of nodes of the net, the lesser first, in order, none twice.
func checkOrder(t *testing.T, row greatNet, pairs [][2]int) {
	t.Helper()
	for i, pair := range pairs {
		if pair[0] < 0 || pair[0] >= pair[1] || pair[1] >= row.g.N || i > 0 && ends(pairs[i-1], pair) >= 0 {
			t.Fatalf("P15.2, P15.4: %s: %v behind %v", row.name, pair, pairs[max(i-1, 0)])
		}
	}
}

func ends(a, b [2]int) int { return slices.Compare(a[:], b[:]) }

// TestCyclePairs: all pairs of the greatest cycle, in order.
func TestCyclePairs(t *testing.T) {
	g := made(t)(maker.Cycle(1024))
	var want [][2]int
	for u := range 1024 {
		for v := u + 2; v < 1024; v++ {
			if v-u < 1023 {
				want = append(want, [2]int{u, v})
			}
		}
	}
	if pairs, err := Pairs(g); !slices.Equal(pairs, want) || err != api.OK {
		t.Errorf("P15.2: Pairs(Cycle(1024)): %d, %v", len(pairs), err)
	}
	if splits, err := Splits(g); !slices.Equal(splits, want) || err != api.OK {
		t.Errorf("P15.4: Splits(Cycle(1024)): %d, %v", len(splits), err)
	}
}

// TestGreatEars: cycles with long and short rows from node to node, shuffled.
func TestGreatEars(t *testing.T) {
	r := rand.New(rand.NewSource(161))
	for i := range 3 {
		g := eared(t, r, 300+100*i)
		s := look(g)
		pairs, err := Pairs(g)
		if err != api.OK {
			t.Fatalf("P15.2: Pairs of %d nodes, %d edges: %v", g.N, len(g.Edges), err)
		}
		splits, err := Splits(g)
		if err != api.OK {
			t.Fatalf("P15.4: Splits of %d nodes, %d edges: %v", g.N, len(g.Edges), err)
		}
		for range 25 {
			u := r.Intn(g.N)
			for v := range g.N {
				pair := [2]int{min(u, v), max(u, v)}
				if u == v {
					continue
				}
				_, apart := slices.BinarySearchFunc(pairs, pair, ends)
				_, split := slices.BinarySearchFunc(splits, pair, ends)
				if apart == s.connected(u, v) || r.Intn(4) == 0 && split != splitting(len(g.Edges), classesOf(g, u, v)) {
					t.Fatalf("P15.2, P15.4: %d, %d of %d nodes, %d edges: separates %v, splits %v", u, v, g.N, len(g.Edges), apart, split)
				}
			}
		}
	}
}
