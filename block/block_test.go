package block

import (
	"math"
	"math/rand"
	"slices"
	"testing"

	"tracery/api"
	"tracery/maker"
	"tracery/walk"
)

// of is a net of n nodes, the ends of its edges in a row.
func of(n int, ends ...int) api.Net {
	g := api.Net{N: n}
	for i := 0; i+1 < len(ends); i += 2 {
		g.Edges = append(g.Edges, [2]int{ends[i], ends[i+1]})
	}
	return g
}

// example is the net of the chapter's examples.
func example() api.Net { return of(4, 0, 1, 1, 2, 2, 0, 2, 3, 3, 3) }

func nums(list ...int) []int { return list }

// strange are numbers that are no node of a small net.
func strange() []int {
	return nums(-1, -2, -1<<32, 1<<32, 1024, 3072, math.MinInt, math.MinInt+1, math.MaxInt, math.MaxInt-1)
}

// wrong are nets that may not be.
func wrong() []api.Net {
	list := []api.Net{
		{N: -1}, {N: math.MinInt}, {N: 1025}, {N: math.MaxInt}, {N: 1 << 32},
		of(0, 0, 0), of(-1, 0, 0), of(1025, 0, 1), of(1, 0, 1), of(1, 1, 0), of(3, 0, 1, 1, 2, 3, 3),
		{N: 1, Edges: make([][2]int, 3073)}, {N: 1024, Edges: make([][2]int, 5000)},
	}
	for _, x := range strange() {
		list = append(list, of(4, 0, x), of(4, x, 0), of(4, x, x), of(4, 0, 1, 2, 3, 1, x), of(4, x, 1, 2, 3))
	}
	return list
}

// some is a net of at most n nodes and m edges, all kinds of edges among them.
func some(r *rand.Rand, n, m int) api.Net {
	g := api.Net{N: r.Intn(n + 1)}
	if g.N == 0 {
		return g
	}
	for range r.Intn(m + 1) {
		g.Edges = append(g.Edges, [2]int{r.Intn(g.N), r.Intn(g.N)})
	}
	return g
}

// made hands on what a maker's call answers.
func made(t *testing.T) func(g api.Net, err api.Errno) api.Net {
	return func(g api.Net, err api.Errno) api.Net {
		t.Helper()
		if err != api.OK {
			t.Fatalf("the maker refused: %v", err)
		}
		return g
	}
}

// shuffled is g with its nodes and edges in another order, and edges turned about.
func shuffled(r *rand.Rand, g api.Net) api.Net {
	to := r.Perm(g.N)
	other := api.Net{N: g.N}
	for _, e := range r.Perm(len(g.Edges)) {
		a, b := to[g.Edges[e][0]], to[g.Edges[e][1]]
		if r.Intn(2) == 0 {
			a, b = b, a
		}
		other.Edges = append(other.Edges, [2]int{a, b})
	}
	return other
}

// cactus has n nodes: cycles that hang at nodes of others, and rows between.
func cactus(r *rand.Rand, n int) api.Net {
	g := api.Net{N: n}
	for next := 1; next < n; {
		at, size := r.Intn(next), min(1+r.Intn(6), n-next)
		v := at
		for range size {
			g.Edges = append(g.Edges, [2]int{v, next})
			v = next
			next++
		}
		if size > 1 && r.Intn(3) > 0 {
			g.Edges = append(g.Edges, [2]int{v, at})
		}
	}
	return g
}

// great are nets as great as they may be, or nearly.
func great(t *testing.T) []api.Net {
	must, r := made(t), rand.New(rand.NewSource(80))
	row := must(maker.Path(1024))
	return []api.Net{
		row, shuffled(r, row),
		must(maker.Cycle(1024)), shuffled(r, must(maker.Cycle(1023))),
		must(maker.Grid(32, 32)), must(maker.Wheel(1023)), must(maker.Stack(1024, 3)), must(maker.Prism(512)),
		must(maker.Complete(78)), must(maker.Two(48, 64)), must(maker.Bond(3072)),
		must(maker.Random(1024, 3072, 7)), must(maker.Random(1024, 900, 8)), must(maker.Random(1024, 0, 9)),
		cactus(r, 1024), shuffled(r, cactus(r, 1024)), shuffled(r, cactus(r, 900)),
		{N: 1, Edges: make([][2]int, 3072)}, {N: 1024, Edges: make([][2]int, 3072)},
	}
}

// fromOf: the node that the half-edge h leaves.
func fromOf(g api.Net, h int) int { return g.Edges[h/2][h%2] }

func isLoop(ends [2]int) bool { return ends[0] == ends[1] }

func sameBlocks(a, b api.Blocks) bool {
	return slices.Equal(a.Of, b.Of) && slices.Equal(a.Cuts, b.Cuts) && a.Count == b.Count
}

// only is g with those edges alone.
func only(g api.Net, stays func(e int) bool) api.Net {
	sub := api.Net{N: g.N}
	for e, ends := range g.Edges {
		if stays(e) {
			sub.Edges = append(sub.Edges, ends)
		}
	}
	return sub
}

// parts are the components of g.
func parts(t *testing.T, g api.Net) ([]int, int) {
	t.Helper()
	part, count, e := walk.Parts(g)
	if e != api.OK {
		t.Fatalf("Parts(%v): %v", g, e)
	}
	return part, count
}

// numbered gives blocks their numbers, in the order of their least edges; together tells of two edges whether they are in one.
func numbered(m int, together func(e, f int) bool) ([]int, int) {
	list, count := make([]int, m), 0
	for e := range m {
		list[e] = -1
		for f := range e {
			if together(f, e) {
				list[e] = list[f]
				break
			}
		}
		if list[e] < 0 {
			list[e] = count
			count++
		}
	}
	return list, count
}

// byCycles goes over all cycles of a small net, one node after the other, and tells of each two edges whether a cycle goes over both.
func byCycles(g api.Net) [][]bool {
	tied := make([][]bool, len(g.Edges))
	for e := range tied {
		tied[e] = make([]bool, len(g.Edges))
		tied[e][e] = true
	}
	on := make([]bool, g.N)
	var goOn func(s, v int, way []int)
	goOn = func(s, v int, way []int) {
		for h := range 2 * len(g.Edges) {
			if fromOf(g, h) != v || slices.Contains(way, h/2) {
				continue
			}
			w := fromOf(g, h^1)
			if w == s {
				cycle := append(slices.Clone(way), h/2)
				for _, e := range cycle {
					for _, f := range cycle {
						tied[e][f] = true
					}
				}
			}
			if w > s && !on[w] { // s is the least node of the cycle
				on[w] = true
				goOn(s, w, append(slices.Clone(way), h/2))
				on[w] = false
			}
		}
	}
	for s := range g.N {
		goOn(s, s, nil)
	}
	return tied
}

// byNodes finds the blocks of a great net: a cycle goes over two edges of a node just if their other ends hang together without it,
// and two edges of one block are neighbours of neighbours by such cycles.
func byNodes(t *testing.T, g api.Net) ([]int, int) {
	t.Helper()
	above := make([]int, len(g.Edges))
	for e := range above {
		above[e] = e
	}
	top := func(e int) int {
		for above[e] != e {
			above[e] = above[above[e]]
			e = above[e]
		}
		return e
	}
	for v := range g.N {
		part, _ := parts(t, only(g, func(e int) bool { return g.Edges[e][0] != v && g.Edges[e][1] != v }))
		first := map[int]int{} // of each component the first edge that leads to it from v
		for e, ends := range g.Edges {
			if isLoop(ends) || ends[0] != v && ends[1] != v {
				continue
			}
			other := part[ends[0]+ends[1]-v]
			if f, ok := first[other]; ok {
				above[top(e)] = top(f)
			} else {
				first[other] = e
			}
		}
	}
	number := map[int]int{}
	list := make([]int, len(g.Edges))
	for e := range list {
		k, ok := number[top(e)]
		if !ok {
			k = len(number)
			number[top(e)] = k
		}
		list[e] = k
	}
	return list, len(number)
}

// cutsByTheWords: the nodes that have edges of two blocks or more, rising.
func cutsByTheWords(g api.Net, block []int) []int {
	var list []int
	for v := range g.N {
		at := map[int]bool{}
		for e, ends := range g.Edges {
			if ends[0] == v || ends[1] == v {
				at[block[e]] = true
			}
		}
		if len(at) >= 2 {
			list = append(list, v)
		}
	}
	return list
}

// checkBlocks holds Blocks against blocks that were found in another way.
func checkBlocks(t *testing.T, g api.Net, block []int, count int) {
	t.Helper()
	want := api.Blocks{Of: block, Cuts: cutsByTheWords(g, block), Count: count}
	if got, e := Blocks(g); e != api.OK || !sameBlocks(got, want) {
		t.Fatalf("P8.1: %v: %v, %v, want %v", g, got, e, want)
	}
	checkBiconnected(t, g, want)
}

func checkBiconnected(t *testing.T, g api.Net, b api.Blocks) {
	t.Helper()
	_, components := parts(t, g)
	want := g.N >= 2 && components == 1 && !slices.ContainsFunc(g.Edges, isLoop) && len(b.Cuts) == 0
	if got, e := Biconnected(g); got != want || e != api.OK {
		t.Fatalf("P8.1: Biconnected(%v): %v, %v, want %v", g, got, e, want)
	}
}

// checkBridges looks at each edge, from the first on in steps: without a bridge its ends are in two components.
func checkBridges(t *testing.T, g api.Net, first, step int) {
	t.Helper()
	bridges, err := Bridges(g)
	if err != api.OK || !slices.IsSorted(bridges) || len(slices.Compact(slices.Clone(bridges))) != len(bridges) {
		t.Fatalf("P8.1: Bridges(%v): %v, %v", g, bridges, err)
	}
	if len(bridges) > 0 && (bridges[0] < 0 || bridges[len(bridges)-1] >= len(g.Edges)) {
		t.Fatalf("P8.1: Bridges(%v): %v", g, bridges)
	}
	for e := first; e < len(g.Edges); e += step {
		part, _ := parts(t, only(g, func(f int) bool { return f != e }))
		apart := part[g.Edges[e][0]] != part[g.Edges[e][1]]
		if slices.Contains(bridges, e) != apart {
			t.Fatalf("P8.1: Bridges(%v): %v, at the edge %d", g, bridges, e)
		}
	}
}

type looked struct {
	name        string
	g           api.Net
	blocks      api.Blocks
	bridges     []int
	biconnected bool
}

func rows() []looked {
	is := func(count int, cuts []int, block ...int) api.Blocks {
		return api.Blocks{Of: block, Cuts: cuts, Count: count}
	}
	return []looked{
		{"the example", example(), is(3, nums(2, 3), 0, 0, 0, 1, 2), nums(3), false},
		{"no node", of(0), is(0, nil), nil, false},
		{"one node", of(1), is(0, nil), nil, false},
		{"nodes without edges", of(3), is(0, nil), nil, false},
		{"a loop", of(1, 0, 0), is(1, nil, 0), nil, false},
		{"two loops of one node", of(1, 0, 0, 0, 0), is(2, nums(0), 0, 1), nil, false},
		{"a loop beside a node", of(2, 1, 1), is(1, nil, 0), nil, false},
		{"two nodes without an edge", of(2), is(0, nil), nil, false},
		{"an edge", of(2, 0, 1), is(1, nil, 0), nums(0), true},
		{"an edge the other way about", of(2, 1, 0), is(1, nil, 0), nums(0), true},
		{"an edge beside a node", of(3, 0, 2), is(1, nil, 0), nums(0), false},
		{"an edge with a loop", of(2, 1, 1, 1, 0), is(2, nums(1), 0, 1), nums(1), false},
		{"parallel edges", of(2, 0, 1, 1, 0, 0, 1), is(1, nil, 0, 0, 0), nil, true},
		{"parallel edges with a loop between", of(2, 0, 1, 0, 0, 1, 0), is(2, nums(0), 0, 1, 0), nil, false},
		{"a row", of(4, 2, 3, 0, 1, 1, 2), is(3, nums(1, 2), 0, 1, 2), nums(0, 1, 2), false},
		{"a row with a parallel edge", of(3, 0, 1, 1, 2, 1, 0), is(2, nums(1), 0, 1, 0), nums(1), false},
		{"a cycle", of(3, 0, 1, 1, 2, 2, 0), is(1, nil, 0, 0, 0), nil, true},
		{"a cycle beside a node", of(4, 0, 1, 1, 3, 3, 0), is(1, nil, 0, 0, 0), nil, false},
		{"two cycles with a node in common", of(5, 0, 1, 4, 3, 1, 2, 3, 2, 2, 0, 2, 4), is(2, nums(2), 0, 1, 0, 1, 0, 1), nil, false},
		{"two cycles with a bridge between", of(6, 3, 4, 0, 1, 2, 3, 1, 2, 4, 5, 0, 2, 5, 3), is(3, nums(2, 3), 0, 1, 2, 1, 0, 1, 0), nums(2), false},
		{"two components", of(5, 3, 4, 0, 1, 4, 3, 1, 2), is(3, nums(1), 0, 1, 0, 2), nums(1, 3), false},
		{"two cycles apart", of(6, 0, 1, 3, 4, 1, 2, 4, 5, 2, 0, 5, 3), is(2, nil, 0, 1, 0, 1, 0, 1), nil, false},
		{"a star", of(4, 3, 0, 3, 1, 2, 3), is(3, nums(3), 0, 1, 2), nums(0, 1, 2), false},
		{"three ways between two nodes", of(5, 0, 1, 0, 2, 0, 3, 1, 4, 2, 4, 3, 4), is(1, nil, 0, 0, 0, 0, 0, 0), nil, true},
	}
}

func TestRows(t *testing.T) {
	for _, row := range rows() {
		if got, e := Blocks(row.g); e != api.OK || !sameBlocks(got, row.blocks) {
			t.Errorf("P8.1: Blocks, %s: %v, %v, want %v", row.name, got, e, row.blocks)
		}
		if got, e := Bridges(row.g); e != api.OK || !slices.Equal(got, row.bridges) {
			t.Errorf("P8.1: Bridges, %s: %v, %v, want %v", row.name, got, e, row.bridges)
		}
		if got, e := Biconnected(row.g); e != api.OK || got != row.biconnected {
			t.Errorf("P8.1: Biconnected, %s: %v, %v, want %v", row.name, got, e, row.biconnected)
		}
	}
}

// TestRefused: ErrArg of nets that may not be, and zero values with it.
func TestRefused(t *testing.T) {
	for _, g := range wrong() {
		if b, e := Blocks(g); e != api.ErrArg || !sameBlocks(b, api.Blocks{}) {
			t.Errorf("P8.1: Blocks of %d nodes, %d edges: %v, %v", g.N, len(g.Edges), b, e)
		}
		if list, e := Bridges(g); e != api.ErrArg || len(list) > 0 {
			t.Errorf("P8.1: Bridges of %d nodes, %d edges: %v, %v", g.N, len(g.Edges), list, e)
		}
		if ok, e := Biconnected(g); e != api.ErrArg || ok {
			t.Errorf("P8.1: Biconnected of %d nodes, %d edges: %v, %v", g.N, len(g.Edges), ok, e)
		}
		if tree, e := Tree(g); e != api.ErrArg || tree.N != 0 || len(tree.Edges) > 0 {
			t.Errorf("P8.2: Tree of %d nodes, %d edges: %v, %v", g.N, len(g.Edges), tree, e)
		}
		if list, e := Ear(g); e != api.ErrArg || len(list) > 0 {
			t.Errorf("P8.3: Ear of %d nodes, %d edges: %v, %v", g.N, len(g.Edges), list, e)
		}
	}
}

// TestBlocksByCycles holds Blocks of small nets against all of their cycles.
func TestBlocksByCycles(t *testing.T) {
	r := rand.New(rand.NewSource(81))
	for i := range 5000 {
		g := some(r, 1+i%7, 1+i%13)
		tied := byCycles(g)
		block, count := numbered(len(g.Edges), func(e, f int) bool { return tied[e][f] })
		for e := range tied {
			for f := range tied {
				if tied[e][f] != (block[e] == block[f]) {
					t.Fatalf("%v: cycles go over %d and %d: %v, blocks %v", g, e, f, tied[e][f], block)
				}
			}
		}
		if other, n := byNodes(t, g); n != count || !slices.Equal(other, block) {
			t.Fatalf("%v: %v by cycles, %v by nodes", g, block, other)
		}
		checkBlocks(t, g, block, count)
		checkBridges(t, g, 0, 1)
	}
}

// TestBlocksByNodes: nets of middle size, most of them with many blocks.
func TestBlocksByNodes(t *testing.T) {
	r := rand.New(rand.NewSource(82))
	for i := range 400 {
		g := cactus(r, 1+r.Intn(40))
		if i%2 == 0 {
			g = some(r, 40, 50)
		}
		for range i % 5 {
			g.Edges = append(g.Edges, [2]int{r.Intn(max(g.N, 1)), r.Intn(max(g.N, 1))})
		}
		if g.N == 0 {
			continue
		}
		g = shuffled(r, g)
		block, count := byNodes(t, g)
		checkBlocks(t, g, block, count)
		checkBridges(t, g, 0, 1)
	}
}

func TestGreatBlocks(t *testing.T) {
	for i, g := range great(t) {
		block, count := byNodes(t, g)
		checkBlocks(t, g, block, count)
		checkBridges(t, g, i%29, 29)
	}
}

// TestKnownAhead: rows, cycles, loops and parallel edges as great as they may be.
func TestKnownAhead(t *testing.T) {
	must := made(t)
	upTo := func(first, end int) []int {
		var list []int
		for x := first; x < end; x++ {
			list = append(list, x)
		}
		return list
	}
	for _, row := range []looked{
		{"a row", must(maker.Path(1024)), api.Blocks{Of: upTo(0, 1023), Cuts: upTo(1, 1023), Count: 1023}, upTo(0, 1023), false},
		{"a cycle", must(maker.Cycle(1024)), api.Blocks{Of: make([]int, 1024), Count: 1}, nil, true},
		{"parallel edges", must(maker.Bond(3072)), api.Blocks{Of: make([]int, 3072), Count: 1}, nil, true},
		{"loops", api.Net{N: 1, Edges: make([][2]int, 3072)}, api.Blocks{Of: upTo(0, 3072), Cuts: nums(0), Count: 3072}, nil, false},
		{"loops beside nodes", api.Net{N: 1024, Edges: make([][2]int, 3072)}, api.Blocks{Of: upTo(0, 3072), Cuts: nums(0), Count: 3072}, nil, false},
	} {
		if got, e := Blocks(row.g); e != api.OK || !sameBlocks(got, row.blocks) {
			t.Errorf("P8.1: Blocks, %s: %d, %d cuts, %v", row.name, got.Count, len(got.Cuts), e)
		}
		if got, e := Bridges(row.g); e != api.OK || !slices.Equal(got, row.bridges) {
			t.Errorf("P8.1: Bridges, %s: %d, %v", row.name, len(got), e)
		}
		if got, e := Biconnected(row.g); e != api.OK || got != row.biconnected {
			t.Errorf("P8.1: Biconnected, %s: %v, %v", row.name, got, e)
		}
	}
}

// TestWhatFollows: two blocks have one node in common at most, a cut node; and a net is biconnected just if the chapter's last line says so.
func TestWhatFollows(t *testing.T) {
	r := rand.New(rand.NewSource(83))
	for i := range 2000 {
		g := some(r, 2+i%8, 2+i%12)
		b, _ := Blocks(g)
		nodes := make([]map[int]bool, b.Count)
		for k := range nodes {
			nodes[k] = map[int]bool{}
		}
		for e, ends := range g.Edges {
			nodes[b.Of[e]][ends[0]], nodes[b.Of[e]][ends[1]] = true, true
		}
		for k := range nodes {
			for l := range k {
				common := 0
				for v := range nodes[k] {
					if nodes[l][v] {
						common++
						if !slices.Contains(b.Cuts, v) {
							t.Fatalf("P8.1: %v: %v: %d is in two blocks", g, b, v)
						}
					}
				}
				if common > 1 {
					t.Fatalf("P8.1: %v: %v: %d and %d have %d nodes in common", g, b, l, k, common)
				}
			}
		}
		_, components := parts(t, g)
		want := g.N > 1 && components == 1 && !slices.ContainsFunc(g.Edges, isLoop) && b.Count == 1
		if got, _ := Biconnected(g); got != want {
			t.Fatalf("P8.1: Biconnected(%v): %v", g, got)
		}
	}
}
