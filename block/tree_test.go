package block

import (
	"math/rand"
	"slices"
	"testing"

	"tracery/api"
	"tracery/maker"
	"tracery/net"
)

func TestTree(t *testing.T) {
	for _, row := range []struct {
		name    string
		g, tree api.Net
	}{
		{"the example", example(), of(5, 0, 3, 1, 3, 1, 4, 2, 4)},
		{"no node", of(0), of(0)},
		{"one node", of(1), of(0)},
		{"nodes without edges", of(1024), of(0)},
		{"a loop", of(1, 0, 0), of(1)},
		{"two loops of one node", of(1, 0, 0, 0, 0), of(3, 0, 2, 1, 2)},
		{"an edge", of(2, 1, 0), of(1)},
		{"an edge with a loop at each end", of(2, 1, 1, 1, 0, 0, 0), of(5, 0, 4, 1, 3, 1, 4, 2, 3)},
		{"parallel edges", of(2, 0, 1, 1, 0), of(1)},
		{"a row", of(4, 2, 3, 0, 1, 1, 2), of(5, 0, 4, 1, 3, 2, 3, 2, 4)},
		{"a star", of(4, 3, 0, 3, 1, 2, 3), of(4, 0, 3, 1, 3, 2, 3)},
		{"a cycle beside nodes", of(5, 1, 2, 2, 4, 4, 1), of(1)},
		{"two cycles with a node in common", of(5, 0, 1, 4, 3, 1, 2, 3, 2, 2, 0, 2, 4), of(3, 0, 2, 1, 2)},
		{"three cycles with a node in common", of(4, 3, 0, 0, 3, 1, 3, 3, 1, 2, 3, 3, 2), of(4, 0, 3, 1, 3, 2, 3)},
		{"a cycle with an edge at each node", of(6, 0, 3, 0, 1, 1, 4, 1, 2, 2, 5, 2, 0), of(7, 0, 4, 1, 4, 1, 5, 1, 6, 2, 5, 3, 6)},
		{"two components, one without a cut node", of(6, 4, 5, 1, 2, 2, 3, 5, 4), of(4, 1, 3, 2, 3)},
		{"two components with cut nodes", of(6, 4, 5, 1, 2, 2, 0, 3, 4), of(6, 0, 5, 1, 4, 2, 4, 3, 5)},
	} {
		if got, e := Tree(row.g); e != api.OK || !net.Same(got, row.tree) {
			t.Errorf("P8.2: %s: %v, %v, want %v", row.name, got, e, row.tree)
		}
	}
}

// has tells whether the node v has an edge of the block k.
func has(g api.Net, b api.Blocks, k, v int) bool {
	for e, ends := range g.Edges {
		if b.Of[e] == k && (ends[0] == v || ends[1] == v) {
			return true
		}
	}
	return false
}

// checkTree looks through all blocks and cut nodes; the tree has no cycle.
func checkTree(t *testing.T, g api.Net) {
	t.Helper()
	b, err := Blocks(g)
	if err != api.OK {
		t.Fatalf("P8.1: %v: %v", g, err)
	}
	tree, err := Tree(g)
	if b.Count+len(b.Cuts) > 1024 {
		if err != api.ErrLimit || tree.N != 0 || len(tree.Edges) > 0 {
			t.Fatalf("P8.2: of %d blocks, %d cut nodes: %v, %v", b.Count, len(b.Cuts), tree, err)
		}
		return
	}
	want := api.Net{N: b.Count + len(b.Cuts)}
	for k := range b.Count {
		for i, v := range b.Cuts {
			if has(g, b, k, v) {
				want.Edges = append(want.Edges, [2]int{k, b.Count + i})
			}
		}
	}
	if err != api.OK || !net.Same(tree, want) {
		t.Fatalf("P8.2: %v: %v, %v, want %v", g, tree, err, want)
	}
	if _, count := parts(t, tree); count+len(tree.Edges) != tree.N {
		t.Fatalf("P8.2: %v: %v has a cycle", g, tree)
	}
}

// TestTreeHangsTogether: of each component that has an edge there is one tree.
func TestTreeHangsTogether(t *testing.T) {
	r := rand.New(rand.NewSource(84))
	for i := range 3000 {
		g := some(r, 1+i%14, i%15)
		checkTree(t, g)
		part, _ := parts(t, g)
		with := map[int]bool{}
		for _, ends := range g.Edges {
			with[part[ends[0]]] = true
		}
		tree, _ := Tree(g)
		if _, count := parts(t, tree); count != len(with) {
			t.Fatalf("P8.2: %v: %v", g, tree)
		}
	}
	for range 100 {
		checkTree(t, shuffled(r, cactus(r, 1+r.Intn(100))))
	}
}

// loops is a net of n nodes with so many loops, as many as can be at nodes of their own.
func loops(n, m int) api.Net {
	g := api.Net{N: n}
	for e := range m {
		g.Edges = append(g.Edges, [2]int{e % n, e % n})
	}
	return g
}

// TestTreeLimit: a tree of 1,024 nodes may be, one of 1,025 may not.
func TestTreeLimit(t *testing.T) {
	must := made(t)
	star := func(n int) api.Net {
		g := api.Net{N: n}
		for v := 1; v < n; v++ {
			g.Edges = append(g.Edges, [2]int{0, v})
		}
		return g
	}
	tailed := must(maker.Path(513)) // with a loop at its beginning: 513 blocks, 512 cut nodes
	tailed.Edges = append(tailed.Edges, [2]int{0, 0})
	for _, row := range []struct {
		name     string
		g        api.Net
		n, edges int
		err      api.Errno
	}{
		{"1,023 loops of one node", loops(1, 1023), 1024, 1023, api.OK},
		{"1,024 loops of one node", loops(1, 1024), 0, 0, api.ErrLimit},
		{"3,072 loops of one node", loops(1, 3072), 0, 0, api.ErrLimit},
		{"1,024 nodes with a loop", loops(1024, 1024), 1024, 0, api.OK},
		{"1,024 nodes with a loop, one with two", loops(1024, 1025), 0, 0, api.ErrLimit},
		{"1,024 nodes with three loops", loops(1024, 3072), 0, 0, api.ErrLimit},
		{"256 nodes with three loops", loops(256, 768), 1024, 768, api.OK},
		{"a row of 513", must(maker.Path(513)), 1023, 1022, api.OK},
		{"a row of 513 with a loop", tailed, 0, 0, api.ErrLimit},
		{"a row of 514", must(maker.Path(514)), 0, 0, api.ErrLimit},
		{"a row of 1,024", must(maker.Path(1024)), 0, 0, api.ErrLimit},
		{"a star of 1,024", star(1024), 1024, 1023, api.OK},
		{"a cycle of 1,024", must(maker.Cycle(1024)), 1, 0, api.OK},
		{"3,072 parallel edges", must(maker.Bond(3072)), 1, 0, api.OK},
	} {
		tree, e := Tree(row.g)
		if tree.N != row.n || len(tree.Edges) != row.edges || e != row.err {
			t.Errorf("P8.2: %s: %d nodes, %d edges, %v, want %d, %d, %v", row.name, tree.N, len(tree.Edges), e, row.n, row.edges, row.err)
		}
	}
}

// TestTreeOfManyJoints: before they are put together there are as many joints as half-edges, which is no limit.
func TestTreeOfManyJoints(t *testing.T) {
	g := api.Net{N: 3}
	for e := range 3070 {
		g.Edges = append(g.Edges, [2]int{0, 1 + e%2})
	}
	g.Edges = append(g.Edges, [2]int{1, 1}, [2]int{2, 2})
	want := of(7, 0, 4, 0, 5, 1, 4, 1, 6, 2, 5, 3, 6)
	if tree, e := Tree(g); e != api.OK || !net.Same(tree, want) {
		t.Errorf("P8.2: %v, %v, want %v", tree, e, want)
	}
}

func TestGreatTrees(t *testing.T) {
	kinds := make([]int, 2)
	for _, g := range great(t) {
		checkTree(t, g)
		_, e := Tree(g)
		kinds[slices.Index([]api.Errno{api.OK, api.ErrLimit}, e)]++
	}
	if slices.Min(kinds) == 0 {
		t.Errorf("trees that may be, and that may not: %v", kinds)
	}
}
