package embed

import (
	"math/big"
	"math/rand"
	"slices"
	"testing"

	"tracery/api"
	"tracery/maker"
)

// growth is a net that is put together of known parts, made at random.
type growth struct {
	r      *rand.Rand
	g      api.Net
	kinds  []int // of the parts
	rigids []api.Net
	ways   *big.Int // the product over the parts
	most   int      // parts beyond which no further one is hung on
	deep   bool
}

// grow is a net of about so many parts; if it is to be deep, each part but the last one has one more hanging on it.
func grow(r *rand.Rand, rigids []api.Net, most int, deep bool) *growth {
	w := &growth{r: r, most: most, deep: deep, rigids: rigids, ways: big.NewInt(1)}
	w.part(1+r.Intn(3), w.node(), w.node(), true)
	return w
}

// planarRigids are nets of level 3 that are planar.
func planarRigids(t *testing.T) []api.Net {
	t.Helper()
	must := made(t)
	return []api.Net{
		must(maker.Complete(4)), must(maker.Wheel(4)), must(maker.Wheel(6)), must(maker.Prism(3)), must(maker.Prism(4)), must(maker.Stack(7, 1)),
		without(must(maker.Complete(5)), 3),
	}
}

// otherRigids are nets of level 3 that are not.
func otherRigids(t *testing.T) []api.Net {
	t.Helper()
	must := made(t)
	return []api.Net{must(maker.Complete(5)), must(maker.Two(3, 3)), petersen(), must(maker.Two(3, 4)), must(maker.Complete(6))}
}

func (w *growth) node() int {
	w.g.N++
	return w.g.N - 1
}

// part lays a part of that kind with an edge between u and v, which is a virtual one but for the first part.
func (w *growth) part(kind, u, v int, first bool) {
	var edges [][2]int
	switch kind {
	case api.Ring:
		edges = w.round(u, v)
	case api.Sheaf:
		edges = slices.Repeat([][2]int{{u, v}}, 2+w.r.Intn(3))
		w.ways.Mul(w.ways, big.NewInt(factorial(len(edges))))
	case api.Rigid:
		edges = w.threefold(u, v)
		w.ways.Mul(w.ways, big.NewInt(2))
	}
	i := len(w.kinds)
	w.kinds = append(w.kinds, kind)
	if first {
		edges = append(edges, [2]int{u, v})
	}
	w.r.Shuffle(len(edges), func(a, b int) { edges[a], edges[b] = edges[b], edges[a] })
	for _, ends := range edges {
		w.edge(i, ends[0], ends[1])
	}
}

// round is a path from u to v.
func (w *growth) round(u, v int) [][2]int {
	var edges [][2]int
	for range 1 + w.r.Intn(4) {
		next := w.node()
		edges = append(edges, [2]int{u, next})
		u = next
	}
	return append(edges, [2]int{u, v})
}

// threefold is a net of level 3 but for one of its edges, which was between u and v.
func (w *growth) threefold(u, v int) [][2]int {
	part := w.rigids[w.r.Intn(len(w.rigids))]
	gone := w.r.Intn(len(part.Edges))
	name := make([]int, part.N)
	for x := range name {
		switch x {
		case part.Edges[gone][0]:
			name[x] = u
		case part.Edges[gone][1]:
			name[x] = v
		default:
			name[x] = w.node()
		}
	}
	var edges [][2]int
	for e, ends := range part.Edges {
		if e != gone {
			edges = append(edges, [2]int{name[ends[0]], name[ends[1]]})
		}
	}
	return edges
}

// edge lays an edge of the part i: a real one, or a virtual one with a part on it, a Ring and a Sheaf none of their own kind.
func (w *growth) edge(i, u, v int) {
	hangs := w.r.Intn(3) == 0
	if w.deep {
		hangs = i == len(w.kinds)-1
	}
	if !hangs || len(w.kinds) >= w.most {
		w.g.Edges = append(w.g.Edges, [2]int{u, v})
		return
	}
	other := 1 + w.r.Intn(3)
	if kind := w.kinds[i]; other == kind && kind != api.Rigid {
		other = 1 + kind%2 // on a Ring a Sheaf, and the other way about
	}
	w.part(other, u, v, false)
}

// checkGrown: a net of known parts has as many ways as the product over them, or is refused where there are too many.
func checkGrown(t *testing.T, r *rand.Rand, w *growth) api.Errno {
	t.Helper()
	g := shuffled(t, r, w.g)
	if w.ways.Cmp(big.NewInt(api.MaxWays)) > 0 {
		refused(t, g, 0, nil, api.ErrMany, api.ErrMany, api.ErrMany)
		return api.ErrMany
	}
	checkWays(t, r, g, w.ways.Int64())
	return api.OK
}

func TestGrown(t *testing.T) {
	rigids := planarRigids(t)
	for seed := range int64(4) {
		t.Run("drawn", func(t *testing.T) {
			t.Parallel()
			r := rand.New(rand.NewSource(230 + seed))
			for i := range 20 {
				checkGrown(t, r, grow(r, rigids, 1+i/2, i%4 == 0))
			}
		})
	}
}

// TestGrownMany: about as many parts as there may be ways of, and more.
func TestGrownMany(t *testing.T) {
	rigids := planarRigids(t)
	for seed := range int64(4) {
		t.Run("drawn", func(t *testing.T) {
			t.Parallel()
			r := rand.New(rand.NewSource(240 + seed))
			seen := map[api.Errno]int{}
			for i := 0; i < 100 && (seen[api.OK] < 2 || seen[api.ErrMany] < 2); i++ {
				w := grow(r, rigids, 24+i%20, i%2 == 0)
				if w.ways.BitLen() > 30 && w.ways.BitLen() < 60 && seen[byTheLimit(w)] < 2 {
					seen[checkGrown(t, r, w)]++
				}
			}
			if seen[api.OK] < 2 || seen[api.ErrMany] < 2 {
				t.Errorf("too few of both: %v", seen)
			}
		})
	}
}

func byTheLimit(w *growth) api.Errno {
	if w.ways.Cmp(big.NewInt(api.MaxWays)) > 0 {
		return api.ErrMany
	}
	return api.OK
}

// TestGrownNotPlanar: one part that is not planar, wherever it is, is enough, also where there would be too many ways.
func TestGrownNotPlanar(t *testing.T) {
	t.Parallel()
	r := rand.New(rand.NewSource(250))
	good, bad := planarRigids(t), otherRigids(t)
	seen := 0
	for i := range 60 {
		w := grow(r, good, 1+i, i%2 == 0)
		if len(w.g.Edges) > 400 {
			continue
		}
		if w.ways.BitLen() > 42 {
			seen++
		}
		g := shuffled(t, r, atTwo(t, r, w.g, bad[i%len(bad)]))
		refused(t, g, int64(-i), nil, api.ErrPlanar, api.ErrPlanar, api.ErrPlanar)
	}
	if seen == 0 {
		t.Error("none of the nets has many ways")
	}
}
