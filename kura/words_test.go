package kura

import (
	"math/rand"
	"slices"
	"testing"

	"tracery/api"
	"tracery/maker"
	"tracery/net"
)

// leaves, comes: the nodes that the half-edge h leaves and comes to.

func leaves(g api.Net, h int) int { return g.Edges[h/2][h%2] }

func comes(g api.Net, h int) int { return g.Edges[h/2][1-h%2] }

// shrunk takes nodes of the degree 2 out, one after the other, and makes their two edges one.
func shrunk(edges [][2]int) [][2]int {
	edges = slices.Clone(edges)
	for {
		at, far := map[int][]int{}, map[int][]int{}
		for e, ends := range edges {
			for side, v := range ends {
				at[v] = append(at[v], e)
				far[v] = append(far[v], ends[1-side])
			}
		}
		best := -1
		for v, list := range at {
			if len(list) == 2 && list[0] != list[1] {
				best = max(best, v)
			}
		}
		if best < 0 {
			return edges
		}
		edges[at[best][0]] = [2]int{far[best][0], far[best][1]}
		edges = slices.Delete(edges, at[best][1], at[best][1]+1)
	}
}

// kindByWords tells the kind by what is left when nodes of the degree 2 are taken out: K5 or K3,3 itself, in any order.
func kindByWords(g api.Net, list []int) int {
	var edges [][2]int
	for _, e := range list {
		edges = append(edges, g.Edges[e])
	}
	left := shrunk(edges)
	joins := map[[2]int]int{}
	near := map[int][]int{}
	for _, ends := range left {
		joins[[2]int{min(ends[0], ends[1]), max(ends[0], ends[1])}]++
		near[ends[0]] = append(near[ends[0]], ends[1])
		near[ends[1]] = append(near[ends[1]], ends[0])
	}
	simple := len(joins) == len(left)
	for _, ends := range left {
		simple = simple && ends[0] != ends[1]
	}
	if simple && len(near) == 5 && len(left) == 10 {
		return 5
	}
	if !simple || len(near) != 6 || len(left) != 9 {
		return 0
	}
	for _, ends := range left { // each of the one's side is joined with the same three
		for v, others := range near {
			a, b := slices.Sorted(slices.Values(others)), slices.Sorted(slices.Values(near[ends[0]]))
			if same := slices.Equal(a, b); same == slices.Contains(b, v) {
				return 0
			}
		}
	}
	return 33
}

// checkBranch holds branch nodes against their degrees and their order.
func checkBranch(t *testing.T, name string, g api.Net, edges, branch []int, kind int) {
	t.Helper()
	sub := made(t)(net.Sub(g, edges))
	degrees, _ := net.Degrees(sub)
	var want []int
	for v, d := range degrees {
		if d > 2 {
			want = append(want, v)
		}
	}
	if sorted := slices.Sorted(slices.Values(branch)); !slices.Equal(sorted, want) {
		t.Fatalf("P12.2: Branch of %s: %v, not of %v", name, branch, want)
	}
	rises := slices.IsSorted(branch)
	if kind == 33 {
		rises = slices.IsSorted(branch[:3]) && slices.IsSorted(branch[3:]) && branch[0] == want[0]
	}
	if !rises {
		t.Fatalf("P12.2: Branch of %s: %v does not rise", name, branch)
	}
}

// checkPath: a path goes from a node to another, half-edge by half-edge, and over no edge and no node that another has gone over.
func checkPath(t *testing.T, name string, g api.Net, path []int, from, to int, gone map[int]int, met map[int]int) {
	t.Helper()
	if len(path) == 0 || leaves(g, path[0]) != from || comes(g, path[len(path)-1]) != to {
		t.Fatalf("P12.2: Paths of %s: %v is not from %d to %d", name, path, from, to)
	}
	for i, h := range path {
		gone[h/2]++
		if gone[h/2] > 1 {
			t.Fatalf("P12.2: Paths of %s: %v goes over an edge again", name, path)
		}
		if i == 0 {
			continue
		}
		v := leaves(g, h)
		met[v]++
		if comes(g, path[i-1]) != v || met[v] > 1 {
			t.Fatalf("P12.2: Paths of %s: %v is no path, or shares the node %d", name, path, v)
		}
	}
}

// checkPaths: there is a path for each two that are to be joined, in their order, and all edges are gone over.
func checkPaths(t *testing.T, name string, g api.Net, edges, branch []int, paths [][]int, like api.Net) {
	t.Helper()
	if len(paths) != len(like.Edges) {
		t.Fatalf("P12.2: Paths of %s: %d of them", name, len(paths))
	}
	gone, met := map[int]int{}, map[int]int{}
	for _, v := range branch {
		met[v] = 1
	}
	for i, path := range paths {
		checkPath(t, name, g, path, branch[like.Edges[i][0]], branch[like.Edges[i][1]], gone, met)
	}
	for _, e := range edges {
		if gone[e] != 1 {
			t.Fatalf("P12.2: Paths of %s: %v do not go over the edge %d", name, paths, e)
		}
	}
	if len(gone) != len(edges) {
		t.Fatalf("P12.2: Paths of %s: %v go over others than %v", name, paths, edges)
	}
}

// checkFigure holds what all calls answer against the chapter's words. Only one answer of each fits them.
func checkFigure(t *testing.T, name string, g api.Net, edges []int, kind int) {
	t.Helper()
	if got, err := Kind(g, edges); got != kind || err != api.OK {
		t.Fatalf("P12.1: Kind of %s, %v: %d, %v, not %d", name, edges, got, err, kind)
	}
	branch, e1 := Branch(g, edges)
	paths, e2 := Paths(g, edges)
	small, e3 := Shrink(g, edges)
	if kind == 0 {
		if len(branch) != 0 || len(paths) != 0 || small.N != 0 || len(small.Edges) != 0 || e1 != api.ErrNone || e2 != api.ErrNone || e3 != api.ErrNone {
			t.Fatalf("P12.2: of %s, %v: %v, %v, %v, %v, %v, %v", name, edges, branch, e1, paths, e2, small, e3)
		}
		return
	}
	if e1 != api.OK || e2 != api.OK || e3 != api.OK {
		t.Fatalf("P12.2: of %s, %v: %v, %v, %v", name, edges, e1, e2, e3)
	}
	checkBranch(t, name, g, edges, branch, kind)
	checkPaths(t, name, g, edges, branch, paths, core(t, kind))
	if !net.Same(small, core(t, kind)) {
		t.Fatalf("P12.3: Shrink of %s, %v: %v", name, edges, small)
	}
}

// petersen has subdivisions of K3,3, none of K5 (no node has the degree 4).
func petersen() api.Net {
	return of(10, 0, 1, 1, 2, 2, 3, 3, 4, 4, 0, 0, 5, 1, 6, 2, 7, 3, 8, 4, 9, 5, 7, 7, 9, 9, 6, 6, 8, 8, 5)
}

// TestAllSubsets: each list of edges of some nets, and how many of them form what.
// Complete(6) has 6 times K5, with or without the sixth node on one of 10 edges, and K3,3 by its 10 partings in threes.
func TestAllSubsets(t *testing.T) {
	must := made(t)
	r := rand.New(rand.NewSource(120))
	for _, row := range []struct {
		name          string
		g             api.Net
		fives, threes int
	}{
		{"Complete(5)", core(t, 5), 1, 0},
		{"Two(3, 3)", core(t, 33), 0, 1},
		{"Complete(6)", must(maker.Complete(6)), 66, 10},
		{"Complete(5), an edge twice, a loop, and an edge that hangs there", with(wider(core(t, 5), 1), 1, 0, 2, 2, 3, 5), 2, 0},
		{"Two(3, 3), an edge twice, a loop, a second way", with(wider(core(t, 33), 1), 3, 0, 2, 2, 5, 6, 6, 1), 0, 4},
		{"Petersen's", petersen(), 0, -1},
		{"Two(3, 5)", must(maker.Two(3, 5)), 0, -1},
	} {
		g := turned(r, row.g)
		count := map[int]int{}
		for set := range 1 << len(g.Edges) {
			var edges []int
			for e := range g.Edges {
				if set>>e&1 == 1 {
					edges = append(edges, e)
				}
			}
			kind := kindByWords(g, edges)
			count[kind]++
			checkFigure(t, row.name, g, edges, kind)
		}
		if count[5] != row.fives || row.threes >= 0 && count[33] != row.threes || count[5]+count[33] == 0 {
			t.Errorf("P12.1: of the edges of %s: %d times K5, %d times K3,3", row.name, count[5], count[33])
		}
	}
}

// TestSubdivided: edges split any number of times, with other nodes and edges about, in any order and direction; an edge less, an edge more.
func TestSubdivided(t *testing.T) {
	r := rand.New(rand.NewSource(121))
	for i := range 1500 {
		kind := nums(5, 33)[i%2]
		g := core(t, kind)
		for range r.Intn(14) {
			g = split(t, g, r.Intn(len(g.Edges)))
		}
		full, edges := hidden(t, r, g, r.Intn(4), r.Intn(8))
		checkFigure(t, "a subdivision", full, edges, kind)
		for at := range edges {
			checkFigure(t, "a subdivision without an edge", full, without(edges, at), 0)
		}
		for e := range full.Edges {
			if !slices.Contains(edges, e) {
				checkFigure(t, "a subdivision with an edge more", full, append(slices.Clone(edges), e), 0)
			}
		}
		for e := range edges {
			again := made(t)(net.Split(full, edges[e]))
			checkFigure(t, "a subdivision, split", again, append(slices.Clone(edges), len(full.Edges)), kind)
			checkFigure(t, "a subdivision, without a half", again, edges, 0)
		}
	}
}

// TestOtherwiseJoined: nodes of the right degrees, joined in any way, paths back to their own node and cycles apart among them.
func TestOtherwiseJoined(t *testing.T) {
	r := rand.New(rand.NewSource(122))
	count := map[int]int{}
	for i := range 20000 {
		nodes, degree := 5, 4
		if i%2 == 1 {
			nodes, degree = 6, 3
		}
		g := api.Net{N: nodes}
		var ends []int
		for range degree {
			for v := range nodes {
				ends = append(ends, v)
			}
		}
		r.Shuffle(len(ends), func(i, k int) { ends[i], ends[k] = ends[k], ends[i] })
		g = with(g, ends...)
		if r.Intn(8) == 0 {
			g = made(t)(net.Join(g, made(t)(maker.Cycle(1+r.Intn(3)))))
		}
		for range r.Intn(4) {
			g = split(t, g, r.Intn(len(g.Edges)))
		}
		g, edges := hidden(t, r, g, r.Intn(2), r.Intn(2))
		kind := kindByWords(g, edges)
		count[kind]++
		checkFigure(t, "nodes of the right degrees", g, edges, kind)
	}
	if count[5] < 10 || count[33] < 10 {
		t.Errorf("too few are of a kind: %v", count)
	}
}

// TestGreat: subdivisions with as many nodes as a net may have, and others of as many edges about.
func TestGreat(t *testing.T) {
	r := rand.New(rand.NewSource(123))
	for _, kind := range nums(5, 33) {
		mixed, one := core(t, kind), core(t, kind)
		for mixed.N < 1024 {
			mixed = split(t, mixed, r.Intn(len(mixed.Edges)))
			one = split(t, one, 4)
		}
		for _, g := range []api.Net{mixed, one} {
			checkFigure(t, "a great subdivision", g, all(g), kind)
			full, edges := hidden(t, r, g, 0, 3072-len(g.Edges))
			checkFigure(t, "a great subdivision", full, edges, kind)
			checkFigure(t, "all edges of a great net", full, all(full), 0)
			for range 20 {
				checkFigure(t, "a great subdivision without an edge", full, without(edges, r.Intn(len(edges))), 0)
			}
		}
		apart := made(t)(net.Join(core(t, kind), made(t)(maker.Cycle(1000))))
		checkFigure(t, "a great cycle apart", apart, all(apart), 0)
	}
}
