package glue

import (
	"math/rand"
	"slices"
	"testing"

	"tracery/api"
	"tracery/maker"
	"tracery/net"
)

type greatNet struct {
	name  string
	g     api.Net
	parts int
}

// great are nets as great as they may be, or nearly, and how many parts they have.
func great(t *testing.T) []greatNet {
	t.Helper()
	must := made(t)
	cycle, grid, stack := must(maker.Cycle(1024)), must(maker.Grid(32, 32)), must(maker.Stack(1024, 3))
	thrice := api.Net{N: 1024, Edges: slices.Concat(cycle.Edges, cycle.Edges, cycle.Edges)}
	return []greatNet{
		{"parallel edges", must(maker.Bond(3072)), 1},
		{"a cycle", cycle, 1},
		{"a cycle, each edge twice", doubled(cycle), 1025},
		{"a cycle of one node less, each edge twice", doubled(must(maker.Cycle(1023))), 1024},
		{"a cycle, each edge thrice", thrice, 1025},
		{"a cycle with a chord", with(cycle, 17, 900), 3},
		{"a row of squares", must(maker.Grid(2, 512)), 1021},
		{"two sides, two nodes on one", must(maker.Two(2, 1022)), 1023},
		{"two sides", must(maker.Two(48, 64)), 1},
		{"a fan", fan(t, 1024), 2043},
		{"a fan, the edges of its rim twice", rimTwice(t), 3067},
		{"a grid", grid, 5},
		{"a wheel", must(maker.Wheel(1023)), 1},
		{"a complete net", must(maker.Complete(78)), 1},
		{"triangles", stack, 1},
		{"triangles, each edge twice", doubled(must(maker.Stack(512, 4))), 1531},
		{"triangles, a node on an edge", must(net.Split(must(maker.Stack(500, 5)), 1000)), 2},
	}
}

// rimTwice is a fan, those of its edges twice that are in no Sheaf of the fan's own.
func rimTwice(t *testing.T) api.Net {
	t.Helper()
	g := with(fan(t, 1024), 1023, 0)
	for v := range 1023 {
		g = with(g, v+1, v)
	}
	return g
}

func TestGreat(t *testing.T) {
	for i, row := range great(t) {
		t.Run(row.name, func(t *testing.T) {
			t.Parallel()
			r := rand.New(rand.NewSource(int64(1900 + i)))
			g := shuffled(t, r, row.g)
			ps := parted(t, g)
			if len(ps) != row.parts {
				t.Fatalf("W2: %s has %d parts, not %d", row.name, len(ps), row.parts)
			}
			if !check(t, mixed(r, ps)) {
				t.Errorf("P17.1: May of %s", row.name)
			}
			if got, err := Net(ps); !net.Same(got, level(g)) || err != api.OK {
				t.Errorf("W2: the net of the parts of %s is another one: %v", row.name, err)
			}
			if ps[len(ps)-1].Kind++; May(ps) {
				t.Errorf("P17.1: May of %s, the last part spoilt", row.name)
			}
		})
	}
}

// chordOf1025 is a cycle of 1,025 with a chord from 0 to 3.
func chordOf1025() []api.Piece {
	ps := chord()
	ps[0] = ring(edge(0, 1, 0), edge(1, 2, 1), edge(2, 3, 2), twin(0, 3, 1))
	ps[1] = sheaf(edge(0, 3, 3), twin(0, 3, 0), twin(0, 3, 2))
	ps[2] = ring(edge(3, 4, 4), twin(0, 3, 1), edge(0, 1024, 1025))
	for v := 4; v < 1024; v++ {
		ps[2].Edges = append(ps[2].Edges, edge(v, v+1, v+1))
	}
	ps[2] = piece(api.Ring, ps[2].Edges)
	return ps
}

// TestMost: as many edges and nodes as may be, and one more; as many parts as a net may have nodes, and one more.
func TestMost(t *testing.T) {
	must := made(t)
	for _, row := range []struct {
		name string
		ps   []api.Piece
		may  bool
	}{
		{"3,072 edges", ofEdges(api.Sheaf, slices.Repeat(nums(0, 1), 3072)...), true},
		{"3,073 edges", ofEdges(api.Sheaf, slices.Repeat(nums(0, 1), 3073)...), false},
		{"3,072 edges and a twin", beside(3070), true},
		{"3,073 edges and a twin", beside(3071), false},
		{"1,024 nodes in three parts", parted(t, with(must(maker.Cycle(1024)), 1, 700)), true},
		{"1,025 nodes in three parts", chordOf1025(), false},
		{"1,024 nodes", round(rising(1024)...), true},
		{"1,025 nodes", round(rising(1025)...), false},
	} {
		if may := check(t, row.ps); may != row.may {
			t.Errorf("P17.1: May of %s: %v", row.name, may)
		}
	}
	for rim, want := range map[int]api.Errno{1022: api.OK, 1023: api.OK, 1024: api.ErrLimit} {
		ps := beads(rim)
		tree, err := Tree(ps)
		if !May(ps) || err != want || err == api.OK && (tree.N != rim+1 || len(tree.Edges) != rim) || err != api.OK && tree.N+len(tree.Edges) != 0 {
			t.Errorf("P17.2: Tree of %d parts: %d nodes, %d edges, %v", rim+1, tree.N, len(tree.Edges), err)
		}
		ps[0].Edges[0].A = ps[0].Edges[0].B
		checkNone(t, ps)
	}
}

// beside is a Ring of two real edges, beside a Sheaf of so many.
func beside(count int) []api.Piece {
	sheaf := ofEdges(api.Sheaf, slices.Repeat(nums(0, 1), count)...)[0]
	sheaf.Edges = append(sheaf.Edges, twin(0, 1, 1))
	return []api.Piece{sheaf, ring(edge(0, 2, count), edge(1, 2, count+1), twin(0, 1, 0))}
}

func rising(n int) []int {
	list := make([]int, n)
	for v := range list {
		list[v] = v
	}
	return list
}

// beads is a Ring all of whose edges have Sheaves.
func beads(rim int) []api.Piece {
	ps := []api.Piece{{Kind: api.Ring}}
	for v := range rim {
		next := (v + 1) % rim
		ps[0].Edges = append(ps[0].Edges, bond(v, next, -1, v+1))
		ps = append(ps, piece(api.Sheaf, []api.Bond{bond(v, next, 2*v, -1), bond(v, next, 2*v+1, -1), bond(v, next, -1, 0)}))
	}
	ps[0] = piece(api.Ring, ps[0].Edges)
	return ps
}

// TestGreatRubbish: lists far beyond all limits, wherever their faults are.
func TestGreatRubbish(t *testing.T) {
	t.Parallel()
	rims := beads(20000)
	loops := slices.Repeat([]api.Bond{{}}, 1<<20)
	k4 := made(t)(maker.Complete(78))
	var rigids []api.Piece
	for range 500 {
		p := api.Piece{Kind: api.Rigid}
		for e, ends := range k4.Edges {
			p.Edges = append(p.Edges, edge(ends[0], ends[1], e))
		}
		rigids = append(rigids, piece(api.Rigid, p.Edges))
	}
	for _, row := range []refusal{
		{"parts with nothing", make([]api.Piece, 1<<21)},
		{"a cycle too long", round(rising(1 << 17)...)},
		{"a Sheaf too great", ofEdges(api.Sheaf, slices.Repeat(nums(0, 1), 1<<20)...)},
		{"loops", []api.Piece{{Kind: api.Ring, Nodes: nums(0), Edges: loops}}},
		{"nodes without edges", []api.Piece{{Kind: api.Rigid, Nodes: rising(1 << 21)}}},
		{"nodes with few edges", []api.Piece{{Kind: api.Ring, Nodes: rising(1 << 21), Edges: round(0, 1, 2)[0].Edges}}},
		{"too many Sheaves on a Ring", rims},
		{"Rigids that hang on nothing", rigids},
		{"a good list, and rubbish behind", append(chord(), make([]api.Piece, 1<<20)...)},
		{"a good list many times", slices.Repeat(chord(), 1<<16)},
	} {
		if May(row.ps) {
			t.Errorf("P17.1: May of %s", row.name)
		}
		checkNone(t, row.ps)
	}
}
