package path

import (
	"math"
	"math/bits"
	"math/rand"
	"slices"
	"testing"

	"tracery/api"
	"tracery/maker"
	"tracery/walk"
)

func TestLeast(t *testing.T) {
	for _, row := range []struct {
		name  string
		g     api.Net
		w     []float64
		edges []int
		sum   float64
	}{
		{"the example", example(), floats(2, 1, 2), nums(0, 1), 3},
		{"all alike", example(), floats(1, 1, 1), nums(0, 1), 2},
		{"the greatest is left", example(), floats(3, 2, 1), nums(1, 2), 3},
		{"no node", of(0), nil, nil, 0},
		{"one node", of(1), nil, nil, 0},
		{"nodes without edges", of(4), nil, nil, 0},
		{"a loop", of(1, 0, 0), floats(0), nil, 0},
		{"loops of all kinds", of(2, 0, 0, 1, 1, 0, 1, 1, 1), floats(0, nought(), 5, inf()), nums(2), 5},
		{"parallel edges", of(2, 0, 1, 1, 0, 0, 1), floats(2, 1, 1), nums(1), 1},
		{"parallel edges of +0 and -0", of(2, 0, 1, 1, 0), floats(0, nought()), nums(0), 0},
		{"parallel edges of -0 and +0", of(2, 0, 1, 1, 0), floats(nought(), 0), nums(0), 0},
		{"-0 alone", of(3, 0, 1, 1, 2), floats(nought(), nought()), nums(0, 1), 0},
		{"two components", of(6, 4, 3, 1, 0, 2, 3, 4, 2, 0, 1), floats(3, 2, 4, 5, 1), nums(0, 2, 4), 8},
		{"+Inf where there is no other", of(3, 0, 1, 1, 2), floats(1, inf()), nums(0, 1), inf()},
		{"+Inf behind the greatest", of(2, 0, 1, 0, 1), floats(inf(), vast), nums(1), vast},
		{"+Inf alone", example(), floats(inf(), inf(), inf()), nums(0, 1), inf()},
		{"a sum that comes to +Inf", of(3, 0, 1, 1, 2), floats(vast, vast), nums(0, 1), inf()},
		{"the least weights", of(3, 0, 1, 1, 2, 2, 0), floats(tiny, 2*tiny, tiny), nums(0, 2), 2 * tiny},
		{"a sum by number, the great one first", of(4, 0, 1, 1, 2, 2, 3), floats(large, 1, 1), nums(0, 1, 2), large},
		{"a sum by number, the great one last", of(4, 0, 1, 1, 2, 2, 3), floats(1, 1, large), nums(0, 1, 2), large + 2},
		{"a sum by number, the great one between", of(4, 0, 1, 1, 2, 2, 3), floats(1, large, 2), nums(0, 1, 2), large + 2},
	} {
		edges, sum, e := Least(row.g, row.w)
		if e != api.OK || !slices.Equal(edges, row.edges) || !sameBits(floats(sum), floats(row.sum)) {
			t.Errorf("P7.3: %s: %v, %v, %v, want %v, %v", row.name, edges, sum, e, row.edges, row.sum)
		}
	}
}

// TestLeastRefuses: ErrArg ahead of ErrWeight, and zero values with each.
func TestLeastRefuses(t *testing.T) {
	refused := func(g api.Net, w []float64, want api.Errno) {
		t.Helper()
		if edges, sum, e := Least(g, w); e != want || len(edges) > 0 || !sameBits(floats(sum), floats(0)) {
			t.Errorf("P7.3: %d nodes, %d edges, weights %v: %v, %v, %v, want %v", g.N, len(g.Edges), w, edges, sum, e, want)
		}
	}
	for _, g := range wrong() {
		refused(g, make([]float64, len(g.Edges)), api.ErrArg)
		refused(g, nil, api.ErrArg)
		refused(g, slices.Repeat(floats(math.NaN()), len(g.Edges)), api.ErrArg)
	}
	for _, n := range nums(0, 1, 2, 4, 5, 4000) {
		refused(example(), make([]float64, n), api.ErrArg)
		refused(example(), slices.Repeat(floats(-1), n), api.ErrArg)
	}
	refused(of(0), floats(1), api.ErrArg)
	for _, x := range unfit() {
		refused(example(), floats(x, 1, 1), api.ErrWeight)
		refused(example(), floats(1, inf(), x), api.ErrWeight)
		refused(of(1, 0, 0), floats(x), api.ErrWeight)
	}
}

// only is g with no other edges than these.
func only(g api.Net, edges []int) api.Net {
	sub := api.Net{N: g.N}
	for _, e := range edges {
		sub.Edges = append(sub.Edges, g.Edges[e])
	}
	return sub
}

// pieces tells how many components a net has.
func pieces(t *testing.T, g api.Net) int {
	t.Helper()
	_, count, e := walk.Parts(g)
	if e != api.OK {
		t.Fatalf("Parts(%v): %v", g, e)
	}
	return count
}

// checkLeast holds edges against the words: rising, without a cycle, each component together; the sum by number;
// and an edge is taken just if those that stand ahead of it, all of them, leave its ends apart.
func checkLeast(t *testing.T, g api.Net, w []float64, looked []int) {
	t.Helper()
	edges, sum, e := Least(g, w)
	if e != api.OK {
		t.Fatalf("P7.3: %v, %v: %v", g, w, e)
	}
	total := 0.0
	for i, d := range edges {
		if d < 0 || d >= len(g.Edges) || i > 0 && d <= edges[i-1] {
			t.Fatalf("P7.3: %v, %v: %v", g, w, edges)
		}
		total += math.Abs(w[d])
	}
	if !sameBits(floats(sum), floats(total)) {
		t.Fatalf("P7.3: %v, %v: %v weigh %v, want %v", g, w, edges, sum, total)
	}
	count := pieces(t, g)
	if len(edges) != g.N-count || pieces(t, only(g, edges)) != count {
		t.Fatalf("P7.3: %v, %v: %v has a cycle, or does not hold together", g, w, edges)
	}
	for _, d := range looked {
		var ahead []int
		for c := range g.Edges {
			if w[c] < w[d] || w[c] == w[d] && c < d {
				ahead = append(ahead, c)
			}
		}
		part, _, _ := walk.Parts(only(g, ahead))
		apart := part[g.Edges[d][0]] != part[g.Edges[d][1]]
		if _, taken := slices.BinarySearch(edges, d); taken != apart {
			t.Fatalf("P7.3: %v, %v: %v, at the edge %d", g, w, edges, d)
		}
	}
}

func TestLeastByTheWords(t *testing.T) {
	r := rand.New(rand.NewSource(7))
	for i := range 6000 {
		g := some(r, 2+i%9, 3+i%17)
		all := make([]int, len(g.Edges))
		for e := range all {
			all[e] = e
		}
		checkLeast(t, g, drawn(r, len(g.Edges)), all)
	}
}

func TestLeastOfGreatNets(t *testing.T) {
	r := rand.New(rand.NewSource(8))
	for _, g := range great(t) {
		for range 3 {
			var looked []int
			for e := r.Intn(50); e < len(g.Edges); e += 50 {
				looked = append(looked, e)
			}
			checkLeast(t, g, drawn(r, len(g.Edges)), looked)
		}
	}
}

func TestLeastKnownAhead(t *testing.T) {
	row := made(t)(maker.Path(1024))
	if edges, sum, e := Least(row, slices.Repeat(floats(0.5), 1023)); len(edges) != 1023 || sum != 511.5 || e != api.OK {
		t.Errorf("P7.3: a row: %d edges, %v, %v", len(edges), sum, e)
	}
	falling := make([]float64, 3072)
	for e := range falling {
		falling[e] = float64(3072 - e)
	}
	bond := made(t)(maker.Bond(3072))
	if edges, sum, e := Least(bond, falling); !slices.Equal(edges, nums(3071)) || sum != 1 || e != api.OK {
		t.Errorf("P7.3: 3,072 parallel edges: %v, %v, %v", edges, sum, e)
	}
}

// TestNoneWeighsLess: of all sets of as many edges that hold each component together none weighs less.
func TestNoneWeighsLess(t *testing.T) {
	r := rand.New(rand.NewSource(9))
	for i := range 300 {
		g := some(r, 1+i%6, 9)
		w := make([]float64, len(g.Edges))
		for e := range w {
			w[e] = float64(r.Intn(6))
		}
		edges, sum, _ := Least(g, w)
		count, least := pieces(t, g), inf()
		for set := range uint(1) << len(g.Edges) {
			if bits.OnesCount(set) != g.N-count {
				continue
			}
			var list []int
			total := 0.0
			for e := range g.Edges {
				if set>>e&1 == 1 {
					list, total = append(list, e), total+w[e]
				}
			}
			if total < least && pieces(t, only(g, list)) == count {
				least = total
			}
		}
		if sum != least {
			t.Fatalf("P7.3: %v, %v: %v weigh %v, and others %v", g, w, edges, sum, least)
		}
	}
}
