package planar

import (
	"math/rand"
	"slices"
	"testing"

	"tracery/api"
	"tracery/maker"
	"tracery/net"
	"tracery/rot"
)

// apart: two nodes of a net with a planar rotation that are on no face together.
// If the net is as a sphere divides it in one way alone, an edge between them is too much.
func apart(t *testing.T, r *rand.Rand, g api.Net) (int, int) {
	t.Helper()
	turn, err := Embed(g)
	if err != api.OK {
		t.Fatalf("P13.2: Embed of %d nodes: %v", g.N, err)
	}
	faces, _ := rot.Faces(g, turn)
	for {
		u, v := r.Intn(g.N), r.Intn(g.N)
		together := slices.ContainsFunc(faces, func(face []int) bool {
			on := func(x int) bool {
				return slices.ContainsFunc(face, func(h int) bool { return g.Edges[h/2][h%2] == x })
			}
			return on(u) && on(v)
		})
		if !together {
			return u, v
		}
	}
}

// TestDense: planar nets with many edges that have one rotation alone but for its mirror; and the same with one edge more.
func TestDense(t *testing.T) {
	must := made(t)
	r := rand.New(rand.NewSource(140))
	var list []api.Net
	for n := 6; n <= 40; n += 2 {
		list = append(list, must(maker.Stack(n, uint64(n))), must(maker.Prism(n)))
	}
	for n := 4; n <= 9; n++ {
		list = append(list, must(maker.Grid(n, n+1)))
	}
	list = append(list, must(maker.Stack(400, 1)), must(maker.Prism(300)), must(maker.Grid(20, 30)))
	for _, g := range list {
		g = shuffled(t, r, g)
		if !certified(t, "many edges", g) {
			t.Errorf("P13.1: %d nodes, %d edges: not planar", g.N, len(g.Edges))
		}
		for range 4 {
			u, v := apart(t, r, g)
			more := shuffled(t, r, with(g, u, v))
			if certified(t, "one edge more", more) {
				t.Errorf("P13.1: %d nodes, %d edges and one more: planar", g.N, len(g.Edges))
			}
		}
	}
}

// TestWheels: a chord of the rim lies outside; two that cross do not, where there is a third spoke on each side.
func TestWheels(t *testing.T) {
	must := made(t)
	r := rand.New(rand.NewSource(141))
	for _, n := range nums(4, 5, 6, 9, 30, 500, 1023) {
		g := must(maker.Wheel(n))
		if !certified(t, "a wheel", shuffled(t, r, g)) {
			t.Errorf("P13.1: Wheel(%d): not planar", n)
		}
		one := with(g, 0, n/2)
		if !certified(t, "a wheel with a chord", shuffled(t, r, one)) {
			t.Errorf("P13.1: Wheel(%d) with a chord: not planar", n)
		}
		if certified(t, "a wheel with two chords that cross", shuffled(t, r, with(one, 1, n/2+1))) {
			t.Errorf("P13.1: Wheel(%d) with two chords that cross: planar", n)
		}
	}
}

// TestHidden: subdivisions of K5 and K3,3 among other edges.
func TestHidden(t *testing.T) {
	r := rand.New(rand.NewSource(142))
	for i := range 600 {
		g := split(t, r, core(t, nums(5, 33)[i%2]), r.Intn(20))
		if certified(t, "a subdivision", shuffled(t, r, g)) {
			t.Fatalf("P13.1: %v: planar", g)
		}
		less := g
		less.Edges = g.Edges[1:]
		if !certified(t, "a subdivision without an edge", shuffled(t, r, less)) {
			t.Fatalf("P13.1: %v: not planar", less)
		}
		g = wider(g, r.Intn(6))
		for range r.Intn(30) {
			g = with(g, r.Intn(g.N), r.Intn(g.N))
		}
		if certified(t, "a subdivision, hidden", shuffled(t, r, g)) {
			t.Fatalf("P13.1: %v: planar", g)
		}
	}
}

// TestSeveral: several obstructions in one net: in blocks of their own, among such as are planar, and in one block.
func TestSeveral(t *testing.T) {
	must := made(t)
	r := rand.New(rand.NewSource(143))
	for i := range 150 {
		nets := []api.Net{must(maker.Grid(3, 4)), must(maker.Cycle(1 + i%4)), must(maker.Stack(8, uint64(i))), of(2, 0, 1)}
		r.Shuffle(len(nets), func(i, k int) { nets[i], nets[k] = nets[k], nets[i] })
		if !certified(t, "blocks that are planar", shuffled(t, r, hung(t, r, nets...))) {
			t.Fatalf("P13.1: %v: not planar", nets)
		}
		for k := range 1 + i%3 {
			nets = append(nets, split(t, r, core(t, nums(5, 33)[k%2]), r.Intn(6)))
		}
		r.Shuffle(len(nets), func(i, k int) { nets[i], nets[k] = nets[k], nets[i] })
		g := hung(t, r, nets...)
		if certified(t, "blocks of which some are not", shuffled(t, r, g)) {
			t.Fatalf("P13.1: %v: planar", nets)
		}
		for v := range g.N {
			g = with(g, v, (v+1)%g.N)
		}
		if certified(t, "several in one block", shuffled(t, r, g)) {
			t.Fatalf("P13.1: %v: planar", nets)
		}
	}
}

// TestGreatPlanar: planar nets as great as they may be, or nearly.
func TestGreatPlanar(t *testing.T) {
	must := made(t)
	r := rand.New(rand.NewSource(144))
	stack := must(maker.Stack(1024, 7))
	full := stack
	for len(full.Edges) < 3072 { // loops and parallel edges up to the limit
		full = with(full, 5, 5, full.Edges[9][1], full.Edges[9][0])
	}
	thin := must(maker.Grid(4, 256))
	for len(thin.Edges) < 3072 {
		thin.Edges = append(thin.Edges, thin.Edges[(len(thin.Edges)*7)%1700])
	}
	bunch := must(maker.Stack(64, 0))
	for i := range 15 {
		bunch = hung(t, r, bunch, must(maker.Stack(64, uint64(i))))
	}
	for _, row := range []struct {
		name string
		g    api.Net
	}{
		{"Stack", stack},
		{"Stack, filled up", full},
		{"Grid", must(maker.Grid(32, 32))},
		{"Grid, narrow", must(maker.Grid(2, 512))},
		{"Grid with parallel edges", thin},
		{"Prism", must(maker.Prism(512))},
		{"Cycle", must(maker.Cycle(1024))},
		{"Path", must(maker.Path(1024))},
		{"Two(2, 1022)", must(maker.Two(2, 1022))},
		{"Bond", must(maker.Bond(3072))},
		{"loops", api.Net{N: 1024, Edges: make([][2]int, 3072)}},
		{"a row of triangulations", bunch},
	} {
		for range 3 {
			if !certified(t, row.name, row.g) {
				t.Errorf("P13.1: %s, great: not planar", row.name)
			}
			row.g = shuffled(t, r, row.g)
		}
	}
}

// TestGreatNot: nets that are not, as great as they may be, or nearly.
func TestGreatNot(t *testing.T) {
	must := made(t)
	r := rand.New(rand.NewSource(145))
	stack := must(maker.Stack(1024, 8))
	u, v := apart(t, r, stack)
	torus := api.Net{N: 1024}
	for at := range 1024 {
		x, y := at%32, at/32
		torus = with(torus, at, y*32+(x+1)%32, at, (y+1)%32*32+x, at, (y+1)%32*32+(x+1)%32)
	}
	for _, row := range []struct {
		name string
		g    api.Net
	}{
		{"Stack, one edge more", with(stack, u, v)},
		{"Grid, one edge more", with(must(maker.Grid(32, 32)), 0, 15*32+15)},
		{"Prism, one edge more", with(must(maker.Prism(512)), 3, 800)},
		{"a ladder with a twist", twisted(1024)},
		{"a torus", torus},
		{"Random", must(maker.Random(1024, 3072, 5))},
		{"Complete(78)", must(maker.Complete(78))},
		{"Two(48, 64)", must(maker.Two(48, 64))},
		{"Two(3, 1021)", must(maker.Two(3, 1021))},
		{"K5, split all over", split(t, r, core(t, 5), 1019)},
		{"K3,3, split all over", split(t, r, core(t, 33), 1018)},
		{"two triangulations and K3,3", hung(t, r, must(maker.Stack(500, 1)), core(t, 33), must(maker.Stack(500, 2)))},
	} {
		for range 3 {
			if certified(t, row.name, row.g) {
				t.Errorf("P13.1: %s, great: planar", row.name)
			}
			row.g = shuffled(t, r, row.g)
		}
	}
}

// TestGreatWith: an edge more in great nets, up to the last one that fits.
func TestGreatWith(t *testing.T) {
	must := made(t)
	r := rand.New(rand.NewSource(146))
	g := must(maker.Stack(1024, 9))
	for range 5 {
		u, v := apart(t, r, g)
		if is, err := With(g, u, v); is || err != api.OK {
			t.Errorf("P13.3: With(Stack(1024), %d, %d): %v, %v", u, v, is, err)
		}
		ends := g.Edges[r.Intn(len(g.Edges))]
		if is, err := With(g, ends[0], ends[1]); !is || err != api.OK {
			t.Errorf("P13.3: With(Stack(1024), %v): %v, %v", ends, is, err)
		}
		g = with(g, ends[1], ends[0])
	}
	g = must(net.Sub(g, r.Perm(len(g.Edges))))
	if is, err := With(g, 0, 0); len(g.Edges) != 3071 || !is || err != api.OK {
		t.Errorf("P13.3: With(%d edges): %v, %v", len(g.Edges), is, err)
	}
	if is, err := With(with(g, 0, 0), 0, 0); is || err != api.ErrLimit {
		t.Errorf("P13.3: With(3,072 edges): %v, %v", is, err)
	}
}
