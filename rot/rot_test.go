package rot

import (
	"math"
	"math/rand"
	"slices"
	"testing"

	"tracery/api"
	"tracery/maker"
)

// of is a net of n nodes, the ends of its edges in a row.
func of(n int, ends ...int) api.Net {
	g := api.Net{N: n}
	for i := 0; i+1 < len(ends); i += 2 {
		g.Edges = append(g.Edges, [2]int{ends[i], ends[i+1]})
	}
	return g
}

// example is the net and the rotation of the chapter's examples.
func example() (api.Net, api.Rot) {
	return of(2, 0, 1, 0, 1, 0, 1), api.Rot{{0, 2, 4}, {1, 5, 3}}
}

func nums(list ...int) []int { return list }

// strange are numbers that are no node and no half-edge of a small net.
func strange() []int {
	return nums(-1, -2, -1<<32, 1<<32, 1024, 3072, math.MinInt, math.MinInt+1, math.MaxInt, math.MaxInt-1)
}

// wrong are nets that may not be.
func wrong() []api.Net {
	list := []api.Net{
		{N: -1}, {N: math.MinInt}, {N: 1025}, {N: math.MaxInt}, {N: 1 << 32},
		of(0, 0, 0), of(-1, 0, 0), of(1025, 0, 1), of(1, 0, 1), of(1, 1, 0), of(3, 0, 1, 1, 2, 3, 3),
		{N: 1, Edges: make([][2]int, 3073)}, {N: 1024, Edges: make([][2]int, 5000)},
	}
	for _, x := range strange() {
		list = append(list, of(4, 0, x), of(4, x, 0), of(4, x, x), of(4, 0, 1, 2, 3, 1, x), of(4, x, 1, 2, 3))
	}
	return list
}

// some is a net of at most n nodes and m edges, all kinds of edges among them.
func some(r *rand.Rand, n, m int) api.Net {
	g := api.Net{N: r.Intn(n + 1)}
	if g.N == 0 {
		return g
	}
	for range r.Intn(m + 1) {
		g.Edges = append(g.Edges, [2]int{r.Intn(g.N), r.Intn(g.N)})
	}
	return g
}

// rising is the rotation whose lists rise, by looking at each half-edge.
func rising(g api.Net) api.Rot {
	r := make(api.Rot, g.N)
	for h := range 2 * len(g.Edges) {
		v := g.Edges[h/2][h%2]
		r[v] = append(r[v], h)
	}
	return r
}

// shuffled is any rotation of g.
func shuffled(r *rand.Rand, g api.Net) api.Rot {
	x := rising(g)
	for _, list := range x {
		r.Shuffle(len(list), func(i, k int) { list[i], list[k] = list[k], list[i] })
	}
	return x
}

// made hands on what a maker's call answers.
func made(t *testing.T) func(g api.Net, err api.Errno) api.Net {
	return func(g api.Net, err api.Errno) api.Net {
		t.Helper()
		if err != api.OK {
			t.Fatalf("the maker refused: %v", err)
		}
		return g
	}
}

// great are nets as great as they may be, or nearly.
func great(t *testing.T) []api.Net {
	must, r := made(t), rand.New(rand.NewSource(90))
	loops := api.Net{N: 1024}
	for range 3072 {
		v := r.Intn(1024)
		loops.Edges = append(loops.Edges, [2]int{v, v})
	}
	return []api.Net{
		must(maker.Path(1024)), must(maker.Cycle(1024)), must(maker.Grid(32, 32)), must(maker.Wheel(1023)),
		must(maker.Stack(1024, 3)), must(maker.Prism(512)), must(maker.Complete(78)), must(maker.Two(48, 64)),
		must(maker.Bond(3072)), must(maker.Random(1024, 3072, 7)), must(maker.Random(1024, 900, 8)),
		{N: 1024}, {N: 1, Edges: make([][2]int, 3072)}, {N: 1024, Edges: make([][2]int, 3072)}, loops,
	}
}

// equal tells whether lists are the same, a nil one as an empty one.
func equal(a, b [][]int) bool {
	return slices.EqualFunc(a, b, func(x, y []int) bool { return slices.Equal(x, y) })
}

// deep is a copy of all lists.
func deep(lists [][]int) [][]int {
	var all [][]int
	for _, list := range lists {
		all = append(all, slices.Clone(list))
	}
	return all
}

// with is r with another list at v.
func with(r api.Rot, v int, list ...int) api.Rot {
	other := deep(r)
	other[v] = list
	return other
}

func TestMay(t *testing.T) {
	g, r := example()
	loop := of(3, 1, 1)
	for _, row := range []struct {
		name string
		g    api.Net
		r    api.Rot
		err  api.Errno
	}{
		{"the example", g, r, api.OK},
		{"another beginning", g, api.Rot{{4, 0, 2}, {3, 1, 5}}, api.OK},
		{"any order", g, api.Rot{{2, 0, 4}, {5, 3, 1}}, api.OK},
		{"no node", of(0), nil, api.OK},
		{"no node, an empty list", of(0), api.Rot{}, api.OK},
		{"no node, a list", of(0), api.Rot{nil}, api.ErrRot},
		{"one node", of(1), api.Rot{nil}, api.OK},
		{"one node, an empty list", of(1), api.Rot{{}}, api.OK},
		{"one node, no list", of(1), nil, api.ErrRot},
		{"one node, two lists", of(1), api.Rot{nil, nil}, api.ErrRot},
		{"one node, a half-edge", of(1), api.Rot{{0}}, api.ErrRot},
		{"a loop beside nodes", loop, api.Rot{nil, {1, 0}, {}}, api.OK},
		{"a loop, one half of it", loop, api.Rot{nil, {1}, nil}, api.ErrRot},
		{"a loop, one half of it twice", loop, api.Rot{nil, {1, 1}, nil}, api.ErrRot},
		{"a loop, a half of it elsewhere", loop, api.Rot{nil, {1}, {0}}, api.ErrRot},
		{"a loop, a half-edge beside it", loop, api.Rot{nil, {1, 2}, nil}, api.ErrRot},
		{"no list", g, nil, api.ErrRot},
		{"a list too few", g, r[:1], api.ErrRot},
		{"a list too many", g, append(deep(r), nil), api.ErrRot},
		{"a list too many, half-edges in it", g, api.Rot{{0, 2, 4}, {1, 5}, {3}}, api.ErrRot},
		{"the first missing", g, with(r, 0, 2, 4), api.ErrRot},
		{"the last missing", g, with(r, 1, 1, 3), api.ErrRot},
		{"all of a node missing", g, with(r, 0), api.ErrRot},
		{"all missing", g, api.Rot{nil, nil}, api.ErrRot},
		{"one twice for another", g, with(r, 1, 1, 5, 5), api.ErrRot},
		{"one twice beside all", g, with(r, 0, 0, 2, 4, 0), api.ErrRot},
		{"one at the other end too", g, with(r, 1, 1, 5, 3, 0), api.ErrRot},
		{"ends changed", g, api.Rot{{0, 2, 1}, {4, 5, 3}}, api.ErrRot},
		{"lists changed", g, api.Rot{{1, 5, 3}, {0, 2, 4}}, api.ErrRot},
		{"a half-edge too great", g, with(r, 0, 0, 2, 6), api.ErrRot},
		{"a half-edge too great beside all", g, with(r, 0, 0, 2, 4, 6), api.ErrRot},
		{"no edges, half-edges", of(2), r, api.ErrRot},
	} {
		if err := May(row.g, row.r); err != row.err {
			t.Errorf("P9.1: %s: %v, want %v", row.name, err, row.err)
		}
	}
	for _, x := range strange() {
		for _, bad := range []api.Rot{with(r, 0, 0, 2, x), with(r, 1, x, 1, 5, 3), with(r, 0, x), {{x}, {x}}} {
			if err := May(g, bad); err != api.ErrRot {
				t.Errorf("P9.1: %v: %v", bad, err)
			}
		}
	}
}

// TestMayGreat: at the limits one half-edge of all is missing, twice, or at another node.
func TestMayGreat(t *testing.T) {
	r := rand.New(rand.NewSource(91))
	for _, g := range great(t) {
		x := shuffled(r, g)
		if err := May(g, x); err != api.OK {
			t.Errorf("P9.1: %d nodes, %d edges: %v", g.N, len(g.Edges), err)
		}
		for v, list := range x {
			if len(list) == 0 || r.Intn(100) > 0 {
				continue
			}
			w := (v + 1) % g.N
			missing, twice, elsewhere := with(x, v, list[1:]...), with(x, v, append(slices.Clone(list), list[0])...), with(x, v, list[1:]...)
			elsewhere[w] = append(elsewhere[w], list[0])
			if May(g, missing) != api.ErrRot || May(g, twice) != api.ErrRot {
				t.Errorf("P9.1: %d nodes, %d edges, wrong at %d", g.N, len(g.Edges), v)
			}
			if w != v && May(g, elsewhere) != api.ErrRot {
				t.Errorf("P9.1: %d nodes, %d edges, wrong at %d and %d", g.N, len(g.Edges), v, w)
			}
		}
	}
}

// TestRefused: ErrArg, if the net may not be, ahead of ErrRot, and that ahead of the errors of net.Sub and net.Moved.
func TestRefused(t *testing.T) {
	for _, g := range wrong() {
		for _, r := range []api.Rot{nil, {}, {nil}, {{0, 2, 4}, {1, 5, 3}}} {
			for _, c := range calls() {
				if a := c.ask(g, r, nums(-5, -5)); a.err != api.ErrArg || !a.nothing() {
					t.Errorf("P9.1: %s of %v: %v", c.name, g.N, a)
				}
			}
		}
	}
	g, r := example()
	for _, bad := range []api.Rot{nil, {}, r[:1], append(deep(r), nil), with(r, 0, 0, 2), with(r, 1, 1, 5, 5), {{1, 5, 3}, {0, 2, 4}}} {
		for _, c := range calls() {
			want := api.ErrRot
			if c.name == "First" {
				want = api.OK
			}
			if a := c.ask(g, bad, nums(-5, -5)); a.err != want || want != api.OK && !a.nothing() {
				t.Errorf("P9.1: %s of %v: %v", c.name, bad, a)
			}
		}
		first, err := Same(g, bad, r)
		second, other := Same(g, r, bad)
		if first || second || err != api.ErrRot || other != api.ErrRot {
			t.Errorf("P9.1: Same of %v: %v, %v; %v, %v", bad, first, err, second, other)
		}
	}
}

func TestFirst(t *testing.T) {
	r := rand.New(rand.NewSource(92))
	list := great(t)
	for range 500 {
		list = append(list, some(r, 7, 12))
	}
	for _, g := range list {
		if got, err := First(g); err != api.OK || !equal(got, rising(g)) || May(g, got) != api.OK {
			t.Errorf("P9.2: %v: %v, %v", g, got, err)
		}
	}
	g, _ := example()
	if got, err := First(g); err != api.OK || !equal(got, api.Rot{{0, 2, 4}, {1, 3, 5}}) {
		t.Errorf("P9.2: %v, %v", got, err)
	}
}

func TestCanonAndMirror(t *testing.T) {
	g, r := example()
	loops := of(2, 1, 1, 1, 1)
	row := of(3, 0, 1, 1, 2)
	for _, row := range []struct {
		name             string
		g                api.Net
		r, canon, mirror api.Rot
	}{
		{"the example", g, r, r, api.Rot{{0, 4, 2}, {1, 3, 5}}},
		{"turned", g, api.Rot{{4, 0, 2}, {5, 3, 1}}, r, api.Rot{{0, 4, 2}, {1, 3, 5}}},
		{"no node", of(0), nil, nil, nil},
		{"one node", of(1), api.Rot{nil}, api.Rot{nil}, api.Rot{nil}},
		{"loops", loops, api.Rot{nil, {3, 1, 2, 0}}, api.Rot{nil, {0, 3, 1, 2}}, api.Rot{nil, {0, 2, 1, 3}}},
		{"a row", row, api.Rot{{0}, {2, 1}, {3}}, api.Rot{{0}, {1, 2}, {3}}, api.Rot{{0}, {1, 2}, {3}}},
	} {
		if got, err := Canon(row.g, row.r); err != api.OK || !equal(got, row.canon) {
			t.Errorf("P9.2: Canon, %s: %v, %v", row.name, got, err)
		}
		if got, err := Mirror(row.g, row.r); err != api.OK || !equal(got, row.mirror) {
			t.Errorf("P9.2: Mirror, %s: %v, %v", row.name, got, err)
		}
	}
}

// behind: the element that stands behind x going round the list.
func behind(list []int, x int) int { return list[(slices.Index(list, x)+1)%len(list)] }

// checkCanon holds Canon and Mirror against x, element by element.
func checkCanon(t *testing.T, g api.Net, x api.Rot) {
	t.Helper()
	canon, err := Canon(g, x)
	mirror, other := Mirror(g, x)
	if err != api.OK || other != api.OK || May(g, canon) != api.OK || May(g, mirror) != api.OK {
		t.Fatalf("P9.2: %v: %v, %v", g, err, other)
	}
	for v, list := range x {
		if len(list) > 0 && (canon[v][0] != slices.Min(list) || mirror[v][0] != slices.Min(list)) {
			t.Fatalf("P9.2: at %d: %v, %v", v, canon[v], mirror[v])
		}
		for i, h := range canon[v] {
			next := canon[v][(i+1)%len(list)]
			if len(list) < 100 && behind(list, h) != next || len(list) < 100 && behind(mirror[v], next) != h {
				t.Fatalf("P9.2: at %d: %v, %v of %v", v, canon[v], mirror[v], list)
			}
		}
	}
	if back, err := Mirror(g, mirror); err != api.OK || !equal(back, canon) {
		t.Fatalf("what follows: Mirror of Mirror: %v, %v", back, err)
	}
	if again, err := Canon(g, canon); err != api.OK || !equal(again, canon) {
		t.Fatalf("P9.2: Canon of Canon: %v, %v", again, err)
	}
}

func TestCanonMany(t *testing.T) {
	r := rand.New(rand.NewSource(93))
	for range 2000 {
		g := some(r, 6, 10)
		checkCanon(t, g, shuffled(r, g))
	}
	for _, g := range great(t) {
		checkCanon(t, g, shuffled(r, g))
	}
}

// sameRound tells whether all elements have the same ones behind them.
func sameRound(a, b []int) bool {
	for _, h := range a {
		if behind(a, h) != behind(b, h) {
			return false
		}
	}
	return true
}

func TestSame(t *testing.T) {
	r := rand.New(rand.NewSource(94))
	yes := 0
	for range 3000 {
		g := some(r, 5, 5)
		a, b := shuffled(r, g), shuffled(r, g)
		want := slices.EqualFunc(a, b, sameRound)
		got, err := Same(g, a, b)
		about, _ := Same(g, b, a)
		if err != api.OK || got != want || about != want {
			t.Fatalf("P9.2: %v: %v, %v: %v", g, a, b, got)
		}
		canon, _ := Canon(g, a)
		if got, err := Same(g, a, canon); err != api.OK || !got {
			t.Fatalf("P9.2: %v: %v and its Canon: %v, %v", g, a, got, err)
		}
		if want {
			yes++
		}
	}
	if yes < 300 || yes > 2700 {
		t.Errorf("the nets are ill chosen: %d the same", yes)
	}
}

// TestSameErrors: of a, then of b.
func TestSameErrors(t *testing.T) {
	g, r := example()
	for _, row := range []struct {
		g    api.Net
		a, b api.Rot
		ok   bool
		err  api.Errno
	}{
		{g, r, r, true, api.OK},
		{g, r, api.Rot{{2, 4, 0}, {3, 1, 5}}, true, api.OK},
		{g, r, api.Rot{{0, 4, 2}, {1, 5, 3}}, false, api.OK},
		{g, r, api.Rot{{0, 2, 4}, {1, 3, 5}}, false, api.OK},
		{g, nil, r, false, api.ErrRot},
		{g, r, nil, false, api.ErrRot},
		{g, nil, nil, false, api.ErrRot},
		{of(-1), nil, nil, false, api.ErrArg},
		{of(1025), r, r, false, api.ErrArg},
		{of(0), nil, api.Rot{}, true, api.OK},
		{of(2), api.Rot{nil, {}}, api.Rot{{}, nil}, true, api.OK},
	} {
		if ok, err := Same(row.g, row.a, row.b); ok != row.ok || err != row.err {
			t.Errorf("P9.1, P9.2: %v, %v: %v, %v", row.a, row.b, ok, err)
		}
	}
}

// TestSameGreat: two half-edges that have changed places at one node of many tell rotations apart.
func TestSameGreat(t *testing.T) {
	r := rand.New(rand.NewSource(95))
	for _, g := range great(t) {
		a := shuffled(r, g)
		b, c := api.Rot(deep(a)), api.Rot(deep(a))
		changed := false
		for v, list := range b {
			if len(list) > 0 {
				i := r.Intn(len(list))
				b[v] = slices.Concat(list[i:], list[:i])
			}
			if len(list) > 2 && !changed {
				c[v][0], c[v][1] = c[v][1], c[v][0]
				changed = true
			}
		}
		same, err := Same(g, a, b)
		other, e := Same(g, a, c)
		if !same || err != api.OK || other == changed || e != api.OK {
			t.Errorf("P9.2: %d nodes, %d edges: %v, %v", g.N, len(g.Edges), same, other)
		}
	}
}
