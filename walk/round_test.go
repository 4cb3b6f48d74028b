package walk

import (
	"math/rand"
	"slices"
	"testing"

	"tracery/api"
	"tracery/maker"
	"tracery/net"
)

// goesRound: half-edges of the net, each leaving where the one ahead comes to, the first where the last one does.
func goesRound(g api.Net, list []int) bool {
	for i, h := range list {
		ahead := list[(i+len(list)-1)%len(list)]
		if h < 0 || h >= 2*len(g.Edges) || ahead < 0 || ahead >= 2*len(g.Edges) || leaves(g, h) != leaves(g, ahead^1) {
			return false
		}
	}
	return len(list) > 0
}

// twice: whether a number stands in a list more than once.
func twice(list []int) bool {
	sorted := slices.Sorted(slices.Values(list))
	return len(slices.Compact(sorted)) < len(list)
}

// told is what ask tells of each element.
func told(list []int, ask func(int) int) []int {
	var out []int
	for _, x := range list {
		out = append(out, ask(x))
	}
	return out
}

func edgeOf(h int) int { return h / 2 }

// isWalk: a closed walk of odd length, no edge twice.
func isWalk(g api.Net, list []int) bool {
	return goesRound(g, list) && len(list)%2 == 1 && !twice(told(list, edgeOf))
}

// isRing: a cycle, no node and no edge twice.
func isRing(g api.Net, list []int) bool {
	nodes := told(list, func(h int) int { return leaves(g, h) })
	return goesRound(g, list) && !twice(nodes) && !twice(told(list, edgeOf))
}

// checkSides holds what Sides answers against the words: either answer proves that the other one is not there.
func checkSides(t *testing.T, g api.Net) {
	t.Helper()
	side, odd, e := Sides(g)
	if e != api.OK {
		t.Fatalf("P6.3: %v: %v", g, e)
	}
	if len(odd) > 0 {
		if len(side) > 0 || !isWalk(g, odd) {
			t.Fatalf("P6.3: %v: %v, %v", g, side, odd)
		}
		return
	}
	if len(side) != g.N {
		t.Fatalf("P6.3: %v: %v, %v", g, side, odd)
	}
	for _, ends := range g.Edges {
		if side[ends[0]]+side[ends[1]] != 1 {
			t.Fatalf("P6.3: %v: %v at %v", g, side, ends)
		}
	}
	part, _, _ := Parts(g)
	next := 0
	for v := range g.N {
		if side[v] != 0 && side[v] != 1 || part[v] == next && side[v] != 0 {
			t.Fatalf("P6.3: %v: %v at %d", g, side, v)
		}
		if part[v] == next {
			next++
		}
	}
}

func TestSides(t *testing.T) {
	for _, row := range []struct {
		g    api.Net
		side []int
		odd  int // how long the walk is, where it can only be one long
	}{
		{example(), nil, 3},
		{of(0), nil, 0},
		{of(1), nums(0), 0},
		{of(3), nums(0, 0, 0), 0},
		{of(1, 0, 0), nil, 1},
		{of(4, 0, 1, 2, 3, 3, 3), nil, 1},
		{of(2, 1, 0), nums(0, 1), 0},
		{of(2, 0, 1, 1, 0, 0, 1), nums(0, 1), 0},
		{of(4, 3, 2, 2, 1, 1, 0), nums(0, 1, 0, 1), 0},
		{of(6, 5, 1, 1, 3, 4, 2), nums(0, 0, 0, 1, 1, 1), 0},
		{of(3, 0, 1, 1, 2, 2, 0), nil, 3},
		{of(6, 0, 1, 5, 4, 4, 3, 3, 2, 2, 5, 1, 0), nums(0, 1, 0, 1, 0, 1), 0},
		{of(7, 0, 1, 6, 5, 5, 4, 4, 3, 3, 2, 2, 6, 1, 0), nil, 5},
	} {
		side, odd, e := Sides(row.g)
		if e != api.OK || !slices.Equal(side, row.side) || len(odd) != row.odd {
			t.Errorf("P6.3: %v: %v, %v, %v, want %v, a walk of %d", row.g, side, odd, e, row.side, row.odd)
		}
		checkSides(t, row.g)
	}
}

func TestSidesOfMany(t *testing.T) {
	r := rand.New(rand.NewSource(4))
	for i := range 6000 {
		checkSides(t, some(r, 1+i%11, i%13))
	}
	for _, g := range great(t) {
		checkSides(t, g)
	}
	for range 200 { // edges between the nodes below k and the others alone, then one edge more
		k := 1 + r.Intn(30)
		g := api.Net{N: k + 30}
		for range r.Intn(100) {
			a, b := r.Intn(k), k+r.Intn(30)
			if r.Intn(2) == 0 {
				a, b = b, a
			}
			g.Edges = append(g.Edges, [2]int{a, b})
		}
		if _, odd, _ := Sides(g); len(odd) > 0 {
			t.Fatalf("P6.3: %v has no odd cycle: %v", g, odd)
		}
		checkSides(t, g)
		g.Edges = append(g.Edges, [2]int{r.Intn(k), r.Intn(k)})
		checkSides(t, g)
	}
}

// TestLongCycles: the one cycle of a net is all of the walk and all of the ring.
func TestLongCycles(t *testing.T) {
	for _, n := range nums(1, 2, 3, 4, 511, 1023, 1024) {
		g := made(t)(maker.Cycle(n))
		side, odd, _ := Sides(g)
		if n%2 == 1 && (len(odd) != n || len(side) > 0) || n%2 == 0 && (len(odd) > 0 || len(side) != n) {
			t.Errorf("P6.3: a cycle of %d: %v, %v", n, side, odd)
		}
		if ring, e := Ring(g); e != api.OK || len(ring) != n || !isRing(g, ring) {
			t.Errorf("P6.4: a cycle of %d: %v, %v", n, ring, e)
		}
	}
}

// shortest: the length of the shortest cycle, 0 if there is none: over each edge, how far its ends are without it.
func shortest(g api.Net) int {
	least := 0
	for e, ends := range g.Edges {
		far := slices.Repeat(nums(1<<20), g.N)
		far[ends[0]] = 0
		for changed := true; changed; {
			changed = false
			for d, other := range g.Edges {
				for side := range 2 {
					if a, b := other[side], other[1-side]; d != e && far[a]+1 < far[b] {
						far[b], changed = far[a]+1, true
					}
				}
			}
		}
		if length := far[ends[1]] + 1; length < 1<<20 && (least == 0 || length < least) {
			least = length
		}
	}
	return least
}

func checkRing(t *testing.T, g api.Net, length int) {
	t.Helper()
	ring, e := Ring(g)
	if length == 0 && (e != api.ErrNone || len(ring) > 0) {
		t.Fatalf("P6.4: %v has no cycle: %v, %v", g, ring, e)
	}
	if length > 0 && (e != api.OK || len(ring) != length || !isRing(g, ring)) {
		t.Fatalf("P6.4: %v: %v, %v, want one of %d", g, ring, e, length)
	}
}

func TestRing(t *testing.T) {
	for _, row := range []struct {
		g      api.Net
		length int
	}{
		{example(), 2},
		{of(0), 0},
		{of(1), 0},
		{of(1, 0, 0), 1},
		{of(2, 0, 1), 0},
		{of(2, 0, 1, 0, 1), 2},
		{of(2, 0, 1, 1, 0), 2},
		{of(3, 0, 1, 1, 2), 0},
		{of(3, 0, 1, 1, 2, 2, 0), 3},
		{of(4, 0, 1, 1, 2, 2, 0, 3, 3), 1},
		{of(5, 0, 1, 1, 2, 2, 0, 3, 4, 4, 3), 2},
		{of(7, 0, 1, 1, 2, 2, 3, 3, 0, 4, 5, 5, 6, 6, 4), 3},
		{of(6, 0, 1, 1, 2, 2, 3, 3, 4, 4, 5, 5, 3), 3},
		{of(6, 0, 1, 1, 2, 2, 3, 3, 4, 4, 5, 5, 0, 1, 4), 4},
	} {
		checkRing(t, row.g, row.length)
	}
	ring, _ := Ring(example())
	if edges := slices.Sorted(slices.Values(told(ring, edgeOf))); !slices.Equal(edges, nums(0, 3)) {
		t.Errorf("P6.4: of the example: %v, want the edges 0 and 3", ring)
	}
}

func TestRingOfMany(t *testing.T) {
	r := rand.New(rand.NewSource(5))
	for i := range 6000 {
		g := some(r, 1+i%12, i%14)
		checkRing(t, g, shortest(g))
	}
	for range 1500 { // few loops and parallel edges, so that rings are longer
		g := api.Net{N: 1 + r.Intn(30)}
		for range g.N + r.Intn(4) {
			if a, b := r.Intn(g.N), r.Intn(g.N); a != b && (r.Intn(20) == 0 || !slices.Contains(g.Edges, [2]int{a, b})) {
				g.Edges = append(g.Edges, [2]int{a, b})
			}
		}
		checkRing(t, g, shortest(g))
	}
}

// TestKnownRings: nets whose shortest cycle is known.
func TestKnownRings(t *testing.T) {
	must := made(t)
	petersen := of(10, 0, 1, 1, 2, 2, 3, 3, 4, 4, 0, 0, 5, 1, 6, 2, 7, 3, 8, 4, 9, 5, 7, 7, 9, 9, 6, 6, 8, 8, 5)
	heawood := api.Net{N: 14}
	for v := range 14 {
		heawood.Edges = append(heawood.Edges, [2]int{v, (v + 1) % 14})
		if v%2 == 0 {
			heawood.Edges = append(heawood.Edges, [2]int{v, (v + 5) % 14})
		}
	}
	for _, row := range []struct {
		g      api.Net
		length int
	}{
		{petersen, 5}, {heawood, 6},
		{must(maker.Path(1024)), 0}, {must(maker.Random(1024, 0, 1)), 0}, {must(maker.Two(1, 1023)), 0},
		{must(maker.Grid(32, 32)), 4}, {must(maker.Wheel(1023)), 3}, {must(maker.Prism(512)), 4},
		{must(maker.Complete(78)), 3}, {must(maker.Two(48, 64)), 4}, {must(maker.Stack(1024, 2)), 3},
		{must(maker.Bond(3072)), 2}, {must(maker.Random(1024, 3072, 3)), shortest(must(maker.Random(1024, 3072, 3)))},
		{api.Net{N: 1024, Edges: make([][2]int, 3072)}, 1},
	} {
		checkRing(t, row.g, row.length)
	}
}

// TestRingOfOneAmongCycles: cycles side by side, of many lengths, the shortest one anywhere.
func TestRingOfOneAmongCycles(t *testing.T) {
	must := made(t)
	for _, lengths := range [][]int{{9, 4, 7}, {5, 6, 7}, {8, 7, 6}, {3, 1, 2}, {100, 99, 101}, {500, 400, 100}} {
		g := api.Net{}
		for _, n := range lengths {
			g = must(net.Join(g, must(maker.Cycle(n))))
		}
		checkRing(t, g, slices.Min(lengths))
		checkSides(t, g)
	}
}
