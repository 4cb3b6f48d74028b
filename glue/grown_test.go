package glue

import (
	"math/rand"
	"slices"
	"testing"

	"tracery/api"
	"tracery/maker"
)

// growth is a tree of parts that is made at random.
type growth struct {
	r      *rand.Rand
	g      api.Net
	parts  []api.Piece
	rigids []api.Net
	edges  int // of all parts so far, virtual ones too
	most   int // beyond which no further part is hung on
	deep   bool
}

// grow is a net with the tree of its parts, which have about so many edges, the numbers and orders any ones;
// if it is to be deep, each part but the last one has one more hanging on it.
func grow(t *testing.T, r *rand.Rand, most int, deep bool) *growth {
	t.Helper()
	must := made(t)
	w := &growth{r: r, most: most, deep: deep}
	w.rigids = []api.Net{
		must(maker.Complete(4)), must(maker.Complete(5)), must(maker.Two(3, 3)), must(maker.Wheel(4)), must(maker.Wheel(6)),
		must(maker.Prism(3)), must(maker.Prism(4)), must(maker.Stack(7, 1)), petersen(),
	}
	kind := 1 + r.Intn(3)
	u, v := w.node(), w.node()
	w.part(kind, u, v, -1)
	return w
}

func (w *growth) node() int {
	w.g.N++
	return w.g.N - 1
}

// part lays a part of that kind with an edge between u and v: a virtual one, if it hangs on the part up.
func (w *growth) part(kind, u, v, up int) {
	var edges [][2]int
	switch kind {
	case api.Ring:
		edges = w.round(u, v)
	case api.Sheaf:
		edges = slices.Repeat([][2]int{{u, v}}, 2+w.r.Intn(3))
	case api.Rigid:
		edges = w.threefold(u, v)
	}
	i := len(w.parts)
	w.parts = append(w.parts, api.Piece{Kind: kind})
	if up >= 0 {
		w.parts[i].Edges = append(w.parts[i].Edges, bond(u, v, -1, up))
	} else {
		edges = append(edges, [2]int{u, v})
	}
	w.edges += len(edges)
	w.r.Shuffle(len(edges), func(a, b int) { edges[a], edges[b] = edges[b], edges[a] })
	for _, ends := range edges {
		w.edge(i, ends[0], ends[1])
	}
}

// round is a path from u to v.
func (w *growth) round(u, v int) [][2]int {
	var edges [][2]int
	for range 1 + w.r.Intn(4) {
		next := w.node()
		edges = append(edges, [2]int{u, next})
		u = next
	}
	return append(edges, [2]int{u, v})
}

// threefold is a net of level 3 but for one of its edges, which was between u and v.
func (w *growth) threefold(u, v int) [][2]int {
	part := w.rigids[w.r.Intn(len(w.rigids))]
	gone := w.r.Intn(len(part.Edges))
	name := make([]int, part.N)
	for x := range name {
		switch x {
		case part.Edges[gone][0]:
			name[x] = u
		case part.Edges[gone][1]:
			name[x] = v
		default:
			name[x] = w.node()
		}
	}
	var edges [][2]int
	for e, ends := range part.Edges {
		if e != gone {
			edges = append(edges, [2]int{name[ends[0]], name[ends[1]]})
		}
	}
	return edges
}

// edge lays an edge of the part i: a real one, or a virtual one with a part on it, a Ring and a Sheaf none of their own kind.
func (w *growth) edge(i, u, v int) {
	hangs := w.r.Intn(3) == 0
	if w.deep {
		hangs = i == len(w.parts)-1
	}
	if !hangs || w.edges >= w.most {
		w.parts[i].Edges = append(w.parts[i].Edges, bond(u, v, len(w.g.Edges), -1))
		w.g.Edges = append(w.g.Edges, [2]int{u, v})
		return
	}
	other := 1 + w.r.Intn(3)
	if kind := w.parts[i].Kind; other == kind && kind != api.Rigid {
		other = 1 + kind%2 // on a Ring a Sheaf, and the other way about
	}
	w.parts[i].Edges = append(w.parts[i].Edges, bond(u, v, -1, len(w.parts)))
	w.part(other, u, v, i)
}

// TestGrown: trees of known parts, with all sorts of names, numbers and orders.
func TestGrown(t *testing.T) {
	t.Parallel()
	r := rand.New(rand.NewSource(181))
	for i := range 500 {
		w := grow(t, r, i%40, i%5 == 0)
		for range 2 {
			ps := renamed(r, w.parts)
			first, _ := Order(ps)
			for range 2 {
				ps = mixed(r, ps)
				if !check(t, ps) {
					t.Fatalf("P17.1: parts put together are refused: %v", ps)
				}
				if again, _ := Order(ps); !samePieces(first, again) {
					t.Fatalf("P17.1: Order(%v): %v, in other orders %v", ps, again, first)
				}
			}
		}
	}
}

// TestGreatGrown: the same, as great as they may be, or nearly.
func TestGreatGrown(t *testing.T) {
	t.Parallel()
	r := rand.New(rand.NewSource(182))
	great, deep := 0, 0
	for tries := 0; great+deep < 6 && tries < 400; tries++ {
		w := grow(t, r, 600+r.Intn(900), tries%2 == 0)
		if w.g.N < 500 || w.g.N > 1024 || len(w.g.Edges) > 3072 || w.deep && deep == 3 || !w.deep && great == 3 {
			continue
		}
		if w.deep {
			deep++
		} else {
			great++
		}
		if ps := mixed(r, renamed(r, w.parts)); !check(t, ps) {
			t.Fatalf("P17.1: %d parts put together are refused", len(ps))
		}
	}
	if great < 3 || deep < 3 {
		t.Errorf("too few great trees: %d, deep ones: %d", great, deep)
	}
}
