package walk

import (
	"math"
	"math/rand"
	"slices"
	"testing"

	"tracery/api"
	"tracery/maker"
	"tracery/net"
)

// of is a net of n nodes, its edges' ends in a row.
func of(n int, ends ...int) api.Net {
	g := api.Net{N: n}
	for i := 0; i+1 < len(ends); i += 2 {
		g.Edges = append(g.Edges, [2]int{ends[i], ends[i+1]})
	}
	return g
}

// example is the net of the chapter's examples.
func example() api.Net { return of(4, 0, 1, 1, 2, 2, 0, 1, 0) }

// strange are numbers that are no node of a small net.
func strange() []int {
	return []int{-1, -2, -1 << 32, 1 << 32, 1024, 3072, math.MinInt, math.MinInt + 1, math.MaxInt, math.MaxInt - 1}
}

// wrong are nets that may not be.
func wrong() []api.Net {
	list := []api.Net{
		{N: -1}, {N: math.MinInt}, {N: 1025}, {N: math.MaxInt}, {N: 1 << 32},
		of(0, 0, 0), of(-1, 0, 0), of(1025, 0, 1), of(1, 0, 1), of(1, 1, 0), of(3, 0, 1, 1, 2, 3, 3),
		{N: 1, Edges: make([][2]int, 3073)}, {N: 1024, Edges: make([][2]int, 5000)},
	}
	for _, x := range strange() {
		list = append(list, of(4, 0, x), of(4, x, 0), of(4, x, x), of(4, 0, 1, 2, 3, 1, x), of(4, x, 1, 2, 3))
	}
	return list
}

// some is a net of at most n nodes and m edges, all kinds of edges among them.
func some(r *rand.Rand, n, m int) api.Net {
	g := api.Net{N: r.Intn(n + 1)}
	if g.N == 0 {
		return g
	}
	for range r.Intn(m + 1) {
		g.Edges = append(g.Edges, [2]int{r.Intn(g.N), r.Intn(g.N)})
	}
	return g
}

// made hands on what a maker's call answers.
func made(t *testing.T) func(g api.Net, err api.Errno) api.Net {
	return func(g api.Net, err api.Errno) api.Net {
		t.Helper()
		if err != api.OK {
			t.Fatalf("the maker refused: %v", err)
		}
		return g
	}
}

// great are nets as great as they may be, or nearly.
func great(t *testing.T) []api.Net {
	must := made(t)
	row := must(maker.Path(1024))
	back := api.Net{N: 1024} // a row whose nodes stand the other way about
	for _, ends := range row.Edges {
		back.Edges = append(back.Edges, [2]int{1023 - ends[0], 1023 - ends[1]})
	}
	return []api.Net{
		row, back,
		must(maker.Cycle(1024)), must(maker.Cycle(1023)),
		must(maker.Grid(32, 32)), must(maker.Wheel(1023)), must(maker.Stack(1024, 3)),
		must(maker.Complete(78)), must(maker.Two(48, 64)), must(maker.Bond(3072)),
		must(maker.Random(1024, 3072, 7)), must(maker.Random(1024, 900, 8)), must(maker.Random(1024, 0, 9)),
		{N: 1, Edges: make([][2]int, 3072)}, {N: 1024, Edges: make([][2]int, 3072)},
	}
}

// leaves: the node that the half-edge h leaves.
func leaves(g api.Net, h int) int { return g.Edges[h/2][h%2] }

func sameTour(a, b api.Tour) bool {
	return slices.Equal(a.Order, b.Order) && slices.Equal(a.By, b.By) && slices.Equal(a.Far, b.Far) && slices.Equal(a.Low, b.Low)
}

func noTour(t api.Tour) bool { return sameTour(t, api.Tour{}) }

// nums is a list of numbers.
func nums(list ...int) []int { return list }

type tours struct {
	name           string
	g              api.Net
	s              int
	breadth, depth api.Tour
}

func rows() []tours {
	return []tours{
		{"the example", example(), 0,
			api.Tour{Order: nums(0, 1, 2), By: nums(-1, 0, 5, -1), Far: nums(0, 1, 1, -1)},
			api.Tour{Order: nums(0, 1, 2), By: nums(-1, 0, 2, -1), Far: nums(0, 1, 2, -1), Low: nums(0, 0, 0, -1)}},
		{"the example from 2", example(), 2,
			api.Tour{Order: nums(2, 1, 0), By: nums(4, 3, -1, -1), Far: nums(1, 1, 0, -1)},
			api.Tour{Order: nums(2, 1, 0), By: nums(1, 3, -1, -1), Far: nums(2, 1, 0, -1), Low: nums(0, 0, 0, -1)}},
		{"the example from 3", example(), 3,
			api.Tour{Order: nums(3), By: nums(-1, -1, -1, -1), Far: nums(-1, -1, -1, 0)},
			api.Tour{Order: nums(3), By: nums(-1, -1, -1, -1), Far: nums(-1, -1, -1, 0), Low: nums(-1, -1, -1, 0)}},
		{"one node", of(1), 0,
			api.Tour{Order: nums(0), By: nums(-1), Far: nums(0)},
			api.Tour{Order: nums(0), By: nums(-1), Far: nums(0), Low: nums(0)}},
		{"a loop", of(1, 0, 0), 0,
			api.Tour{Order: nums(0), By: nums(-1), Far: nums(0)},
			api.Tour{Order: nums(0), By: nums(-1), Far: nums(0), Low: nums(0)}},
		{"an edge", of(2, 1, 0), 0,
			api.Tour{Order: nums(0, 1), By: nums(-1, 1), Far: nums(0, 1)},
			api.Tour{Order: nums(0, 1), By: nums(-1, 1), Far: nums(0, 1), Low: nums(0, 1)}},
		{"an edge with a loop at its end", of(2, 1, 1, 1, 0), 0,
			api.Tour{Order: nums(0, 1), By: nums(-1, 3), Far: nums(0, 1)},
			api.Tour{Order: nums(0, 1), By: nums(-1, 3), Far: nums(0, 1), Low: nums(0, 1)}},
		{"parallel edges", of(2, 1, 0, 0, 1), 0,
			api.Tour{Order: nums(0, 1), By: nums(-1, 1), Far: nums(0, 1)},
			api.Tour{Order: nums(0, 1), By: nums(-1, 1), Far: nums(0, 1), Low: nums(0, 0)}},
		{"a row with a cycle at its end", of(5, 0, 1, 1, 2, 2, 3, 3, 4, 4, 2), 0,
			api.Tour{Order: nums(0, 1, 2, 3, 4), By: nums(-1, 0, 2, 4, 9), Far: nums(0, 1, 2, 3, 3)},
			api.Tour{Order: nums(0, 1, 2, 3, 4), By: nums(-1, 0, 2, 4, 6), Far: nums(0, 1, 2, 3, 4), Low: nums(0, 1, 2, 2, 2)}},
		{"two ways out, the later node first", of(4, 0, 3, 0, 1, 1, 2, 2, 3), 0,
			api.Tour{Order: nums(0, 3, 1, 2), By: nums(-1, 2, 7, 0), Far: nums(0, 1, 2, 1)},
			api.Tour{Order: nums(0, 3, 2, 1), By: nums(-1, 5, 7, 0), Far: nums(0, 3, 2, 1), Low: nums(0, 0, 0, 0)}},
	}
}

func TestTours(t *testing.T) {
	for _, row := range rows() {
		if got, e := Breadth(row.g, row.s); e != api.OK || !sameTour(got, row.breadth) {
			t.Errorf("P6.1: Breadth, %s: %v, %v, want %v", row.name, got, e, row.breadth)
		}
		if got, e := Depth(row.g, row.s); e != api.OK || !sameTour(got, row.depth) {
			t.Errorf("P6.1: Depth, %s: %v, %v, want %v", row.name, got, e, row.depth)
		}
	}
}

// TestRefused: ErrArg of nets that may not be, ahead of ErrBounds of nodes that are not there; and zero values with them.
func TestRefused(t *testing.T) {
	refused := func(g api.Net, s int, want api.Errno) {
		t.Helper()
		if got, e := Breadth(g, s); e != want || !noTour(got) {
			t.Errorf("P6.1: Breadth(%d nodes, %d edges, %d): %v, %v, want %v", g.N, len(g.Edges), s, got, e, want)
		}
		if got, e := Depth(g, s); e != want || !noTour(got) {
			t.Errorf("P6.1: Depth(%d nodes, %d edges, %d): %v, %v, want %v", g.N, len(g.Edges), s, got, e, want)
		}
		for v, far := range Each(g, s) {
			t.Errorf("P6.5: Each(%d nodes, %d edges, %d) has %d, %d", g.N, len(g.Edges), s, v, far)
		}
	}
	for _, g := range wrong() {
		for _, s := range append(strange(), 0, g.N-1, g.N) {
			refused(g, s, api.ErrArg)
		}
		if part, n, e := Parts(g); len(part) > 0 || n != 0 || e != api.ErrArg {
			t.Errorf("P6.2: %d nodes, %d edges: %v, %d, %v", g.N, len(g.Edges), part, n, e)
		}
		if side, odd, e := Sides(g); len(side) > 0 || len(odd) > 0 || e != api.ErrArg {
			t.Errorf("P6.3: %d nodes, %d edges: %v, %v, %v", g.N, len(g.Edges), side, odd, e)
		}
		if ring, e := Ring(g); len(ring) > 0 || e != api.ErrArg {
			t.Errorf("P6.4: %d nodes, %d edges: %v, %v", g.N, len(g.Edges), ring, e)
		}
	}
	for _, g := range append(great(t), example(), of(0), of(1), of(1, 0, 0)) {
		for _, s := range append(strange(), g.N, g.N+1) {
			refused(g, s, api.ErrBounds)
		}
	}
}

// places: where each node stands in Order, -1 if nowhere.
func places(n int, order []int) []int {
	place := slices.Repeat(nums(-1), n)
	for i, v := range order {
		place[v] = i
	}
	return place
}

// checkBreadth holds a tour against the words, without going the way again: a node is found by the half-edge that is first
// among those that come to it, by the place of the node that it leaves and then by number; and that is the nodes' order.
func checkBreadth(t *testing.T, g api.Net, s int, tour api.Tour) {
	t.Helper()
	if len(tour.Order) == 0 || tour.Order[0] != s || len(tour.By) != g.N || len(tour.Far) != g.N || len(tour.Low) > 0 {
		t.Fatalf("P6.1: %v from %d: %v", g, s, tour)
	}
	place := places(g.N, tour.Order)
	first := slices.Repeat(nums(-1), g.N)
	for e, ends := range g.Edges {
		for side := range 2 {
			h, from, into := 2*e+side, ends[side], ends[1-side]
			if place[from] >= 0 && (first[into] < 0 || place[from] < place[leaves(g, first[into])]) {
				first[into] = h
			}
		}
	}
	for v := range g.N {
		want := first[v]
		if v == s {
			want = -1
		}
		far := -1
		switch {
		case v == s:
			far = 0
		case place[v] >= 0:
			far = tour.Far[leaves(g, tour.By[v])] + 1
		}
		if tour.By[v] != want || (place[v] >= 0) != (v == s || want >= 0) || tour.Far[v] != far {
			t.Fatalf("P6.1: %v from %d, node %d: %v, By %d, Far %d", g, s, v, tour, want, far)
		}
	}
	ahead := nums(-1, -1)
	for _, v := range tour.Order[1:] {
		by := nums(place[leaves(g, tour.By[v])], tour.By[v])
		if slices.Compare(ahead, by) >= 0 || by[0] >= place[v] {
			t.Fatalf("P6.1: %v from %d: %d stands at a wrong place: %v", g, s, v, tour)
		}
		ahead = by
	}
}

// byTheWords goes depth first from s by calls within calls.
func byTheWords(g api.Net, s int) api.Tour {
	tour := api.Tour{By: slices.Repeat(nums(-1), g.N), Far: slices.Repeat(nums(-1), g.N)}
	out := make([][]int, g.N)
	for v := range g.N {
		out[v], _ = net.Out(g, v)
	}
	var visit func(v, by, far int)
	visit = func(v, by, far int) {
		tour.Order = append(tour.Order, v)
		tour.By[v], tour.Far[v] = by, far
		for _, h := range out[v] {
			if w := leaves(g, h^1); tour.Far[w] < 0 {
				visit(w, h, far+1)
			}
		}
	}
	visit(s, -1, 0)
	return tour
}

// lowByTheWords looks through all edges and climbs from each node, for one node's Low.
func lowByTheWords(g api.Net, tour api.Tour, v int) int {
	if tour.Far[v] < 0 {
		return -1
	}
	place := places(g.N, tour.Order)
	under := func(w int) bool {
		for w != v && tour.By[w] >= 0 {
			w = leaves(g, tour.By[w])
		}
		return w == v
	}
	low := place[v]
	for h := range 2 * len(g.Edges) {
		ownEdge := tour.By[v] >= 0 && tour.By[v]/2 == h/2
		if from := leaves(g, h); !ownEdge && place[from] >= 0 && under(leaves(g, h^1)) {
			low = min(low, place[from])
		}
	}
	return low
}

func checkDepth(t *testing.T, g api.Net, s int, tour api.Tour) {
	t.Helper()
	want := byTheWords(g, s)
	if len(tour.Low) != g.N {
		t.Fatalf("P6.1: %v from %d: %v", g, s, tour)
	}
	want.Low = tour.Low
	if !sameTour(tour, want) {
		t.Fatalf("P6.1: %v from %d: %v, want %v", g, s, tour, want)
	}
}

func checkLow(t *testing.T, g api.Net, tour api.Tour, v int) {
	t.Helper()
	if want := lowByTheWords(g, tour, v); tour.Low[v] != want {
		t.Fatalf("P6.1: %v: %v, Low of %d is %d", g, tour, v, want)
	}
}

func TestToursByTheWords(t *testing.T) {
	r := rand.New(rand.NewSource(1))
	for i := range 4000 {
		g := some(r, 2+i%8, 3+i%13)
		for s := range g.N {
			b, _ := Breadth(g, s)
			checkBreadth(t, g, s, b)
			d, _ := Depth(g, s)
			checkDepth(t, g, s, d)
			for v := range g.N {
				checkLow(t, g, d, v)
			}
		}
	}
}

func TestGreatTours(t *testing.T) {
	for _, g := range great(t) {
		for _, s := range nums(0, g.N/2, g.N-1) {
			b, e1 := Breadth(g, s)
			d, e2 := Depth(g, s)
			if e1 != api.OK || e2 != api.OK {
				t.Fatalf("P6.1: %d nodes from %d: %v, %v", g.N, s, e1, e2)
			}
			checkBreadth(t, g, s, b)
			checkDepth(t, g, s, d)
			for v := s % 97; v < g.N; v += 97 {
				checkLow(t, g, d, v)
			}
		}
	}
}

// TestRow: the tours of 1,024 nodes in a row are known ahead.
func TestRow(t *testing.T) {
	g := made(t)(maker.Path(1024))
	b, _ := Breadth(g, 0)
	d, _ := Depth(g, 0)
	for v := range 1024 {
		by := 2 * (v - 1)
		if v == 0 {
			by = -1
		}
		if b.Order[v] != v || b.By[v] != by || b.Far[v] != v {
			t.Fatalf("P6.1: Breadth at %d: %d, %d, %d", v, b.Order[v], b.By[v], b.Far[v])
		}
		if d.Order[v] != v || d.By[v] != by || d.Far[v] != v || d.Low[v] != v {
			t.Fatalf("P6.1: Depth at %d: %d, %d, %d, %d", v, d.Order[v], d.By[v], d.Far[v], d.Low[v])
		}
	}
}

// TestWhatFollows: along an edge Far of Breadth changes by one at most, and an edge beside the tree of Depth joins a node with one above it.
func TestWhatFollows(t *testing.T) {
	for _, g := range great(t) {
		b, _ := Breadth(g, 0)
		d, _ := Depth(g, 0)
		for e, ends := range g.Edges {
			if x := b.Far[ends[0]] - b.Far[ends[1]]; x < -1 || x > 1 {
				t.Fatalf("P6.1: edge %d is %d and %d away", e, b.Far[ends[0]], b.Far[ends[1]])
			}
			low, high := ends[0], ends[1]
			if d.Far[low] < d.Far[high] {
				low, high = high, low
			}
			for low != high && d.By[low] >= 0 {
				low = leaves(g, d.By[low])
				if low == high || d.Far[low] < d.Far[high] {
					break
				}
			}
			if d.Far[high] >= 0 && low != high {
				t.Fatalf("P6.1: edge %d goes across", e)
			}
		}
	}
}

// checkParts holds components against the words: ends are in one, each but the least node of one has a way to it,
// and the numbers come in the order of the least nodes.
func checkParts(t *testing.T, g api.Net) {
	t.Helper()
	part, count, e := Parts(g)
	if e != api.OK || len(part) != g.N {
		t.Fatalf("P6.2: %v: %v, %d, %v", g, part, count, e)
	}
	least := make([]int, g.N)
	for v := range least {
		least[v] = v
	}
	for changed := true; changed; {
		changed = false
		for _, ends := range g.Edges {
			if a, b := ends[0], ends[1]; least[a] != least[b] {
				least[a] = min(least[a], least[b])
				least[b] = least[a]
				changed = true
			}
		}
	}
	next := 0
	for v := range g.N {
		want := next
		if least[v] != v {
			want = part[least[v]]
		} else {
			next++
		}
		if part[v] != want {
			t.Fatalf("P6.2: %v: %v, node %d is in %d", g, part, v, want)
		}
	}
	if count != next {
		t.Fatalf("P6.2: %v: %d, want %d", g, count, next)
	}
}

func TestParts(t *testing.T) {
	for _, row := range []struct {
		g     api.Net
		part  []int
		count int
	}{
		{example(), nums(0, 0, 0, 1), 2},
		{of(0), nil, 0},
		{of(1), nums(0), 1},
		{of(1, 0, 0), nums(0), 1},
		{of(3), nums(0, 1, 2), 3},
		{of(5, 4, 1, 3, 3, 2, 0, 0, 2), nums(0, 1, 0, 2, 1), 3},
		{of(6, 5, 0, 4, 1, 3, 2), nums(0, 1, 2, 2, 1, 0), 3},
	} {
		if part, count, e := Parts(row.g); !slices.Equal(part, row.part) || count != row.count || e != api.OK {
			t.Errorf("P6.2: %v: %v, %d, %v, want %v, %d", row.g, part, count, e, row.part, row.count)
		}
	}
	r := rand.New(rand.NewSource(2))
	for i := range 4000 {
		checkParts(t, some(r, 1+i%12, i%11))
	}
	for _, g := range great(t) {
		checkParts(t, g)
	}
}
