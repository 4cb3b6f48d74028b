package sepa

import (
	"math/rand"
	"slices"
	"testing"

	"tracery/api"
	"tracery/maker"
)

// growth is a net that is put together of parts as those of doc/16: each of two parts that hang together has a virtual edge there,
// which is in neither's place in the net. What pairs split it follows from the parts alone.
type growth struct {
	r     *rand.Rand
	g     api.Net
	known map[[2]int]bool // the split pairs
	rigid []api.Net
	most  int // edges, beyond which no further part is hung on
}

// grow is a net of about so many edges with the pairs that split it, in order.
func grow(t *testing.T, r *rand.Rand, most int) (api.Net, [][2]int) {
	t.Helper()
	must := made(t)
	w := &growth{r: r, known: map[[2]int]bool{}, most: most}
	w.rigid = []api.Net{
		must(maker.Complete(4)), must(maker.Complete(5)), must(maker.Two(3, 3)), must(maker.Wheel(4)), must(maker.Wheel(6)),
		must(maker.Prism(3)), must(maker.Prism(4)), must(maker.Stack(7, 1)), petersen(),
	}
	w.root()
	var pairs [][2]int
	for pair := range w.known {
		pairs = append(pairs, pair)
	}
	slices.SortFunc(pairs, func(a, b [2]int) int { return slices.Compare(a[:], b[:]) })
	return w.g, pairs
}

func (w *growth) node() int {
	w.g.N++
	return w.g.N - 1
}

func (w *growth) split(u, v int) { w.known[[2]int{min(u, v), max(u, v)}] = true }

// root lays the first part: as if it hung on an edge, which it has then itself.
func (w *growth) root() {
	u, v := w.node(), w.node()
	kind := 1 + w.r.Intn(3)
	w.part(kind, u, v)
	w.edge(kind, u, v)
}

// part lays a part of that kind, but for one of its edges, between u and v.
func (w *growth) part(kind, u, v int) {
	switch kind {
	case api.Ring:
		w.ring(u, v)
	case api.Sheaf:
		edges := 3 + w.r.Intn(3)
		if edges >= 4 {
			w.split(u, v)
		}
		for range edges - 1 {
			w.edge(kind, u, v)
		}
	case api.Rigid:
		w.threefold(u, v)
	}
}

func (w *growth) ring(u, v int) {
	nodes := nums(u)
	for range 1 + w.r.Intn(4) {
		nodes = append(nodes, w.node())
	}
	nodes = append(nodes, v)
	for i, a := range nodes {
		for j := i + 2; j < len(nodes); j++ {
			if j-i < len(nodes)-1 { // the first and the last one are joined
				w.split(a, nodes[j])
			}
		}
	}
	for i := range len(nodes) - 1 {
		w.edge(api.Ring, nodes[i], nodes[i+1])
	}
}

func (w *growth) threefold(u, v int) {
	part := w.rigid[w.r.Intn(len(w.rigid))]
	gone := w.r.Intn(len(part.Edges))
	name := make([]int, part.N)
	for x := range name {
		switch x {
		case part.Edges[gone][0]:
			name[x] = u
		case part.Edges[gone][1]:
			name[x] = v
		default:
			name[x] = w.node()
		}
	}
	for e, ends := range part.Edges {
		if e != gone {
			w.edge(api.Rigid, name[ends[0]], name[ends[1]])
		}
	}
}

// edge lays an edge of a part of that kind: a real one, or a virtual one with a part on it, a Ring and a Sheaf none of their own kind.
func (w *growth) edge(kind, u, v int) {
	other := 1 + w.r.Intn(3)
	if w.r.Intn(3) > 0 || len(w.g.Edges) >= w.most || other == kind && kind != api.Rigid {
		w.g.Edges = append(w.g.Edges, [2]int{u, v})
		return
	}
	w.split(u, v)
	w.part(other, u, v)
}

// moved is g and pairs with nodes and edges in another order.
func moved(r *rand.Rand, g api.Net, pairs [][2]int) (api.Net, [][2]int) {
	to := r.Perm(g.N)
	other := api.Net{N: g.N}
	for _, e := range r.Perm(len(g.Edges)) {
		other.Edges = append(other.Edges, [2]int{to[g.Edges[e][0]], to[g.Edges[e][1]]})
	}
	var list [][2]int
	for _, pair := range pairs {
		a, b := to[pair[0]], to[pair[1]]
		list = append(list, [2]int{min(a, b), max(a, b)})
	}
	slices.SortFunc(list, func(a, b [2]int) int { return slices.Compare(a[:], b[:]) })
	return other, list
}

// checkGrown: of a net put together of parts the split pairs are those that doc/16 tells; and those of them separate it without which it is not connected.
func checkGrown(t *testing.T, g api.Net, want [][2]int) {
	t.Helper()
	if splits, err := Splits(g); !slices.Equal(splits, want) || err != api.OK {
		t.Fatalf("W2: Splits(%v): %v, %v, not %v", g, splits, err, want)
	}
	s := look(g)
	var apart [][2]int
	for _, pair := range want {
		if !s.connected(pair[0], pair[1]) {
			apart = append(apart, pair)
		}
	}
	level := 2
	switch {
	case g.N == 2:
		level = 1
	case g.N > 3 && len(apart) == 0:
		level = 3
	}
	if got, err := Level(g); got != level || err != api.OK {
		t.Fatalf("P15.1: Level(%v): %d, %v, not %d", g, got, err, level)
	}
	if pairs, err := Pairs(g); !slices.Equal(pairs, apart) || (err == api.OK) != (level >= 2) {
		t.Fatalf("P15.2: Pairs(%v): %v, %v, not %v", g, pairs, err, apart)
	}
}

// TestSplitsOfTrees: the words of this chapter and those of doc/16 tell the same pairs.
func TestSplitsOfTrees(t *testing.T) {
	r := rand.New(rand.NewSource(157))
	for i := range 1200 {
		g, want := grow(t, r, i%40)
		checkGrown(t, g, want)
		g, want = moved(r, g, want)
		checkGrown(t, g, want)
		if g.N < 30 {
			check(t, g)
		}
	}
}

// TestGreatTrees: the same of nets as great as they may be, or nearly.
func TestGreatTrees(t *testing.T) {
	r := rand.New(rand.NewSource(158))
	great := 0
	for tries := 0; great < 4 && tries < 200; tries++ {
		g, want := grow(t, r, 1000)
		if g.N < 500 || g.N > 1024 || len(g.Edges) > 3072 {
			continue
		}
		great++
		checkGrown(t, g, want)
		g, want = moved(r, g, want)
		checkGrown(t, g, want)
	}
	if great < 4 {
		t.Errorf("too few great nets: %d", great)
	}
}
