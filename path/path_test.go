package path

import (
	"math"
	"math/rand"
	"slices"
	"testing"

	"tracery/api"
	"tracery/maker"
)

// of is a net of n nodes, the ends of its edges in a row.
func of(n int, ends ...int) api.Net {
	g := api.Net{N: n}
	for i := 0; i+1 < len(ends); i += 2 {
		g.Edges = append(g.Edges, [2]int{ends[i], ends[i+1]})
	}
	return g
}

// example is the net of the chapter's examples.
func example() api.Net { return of(3, 0, 1, 1, 2, 0, 2) }

func nums(list ...int) []int { return list }

func floats(list ...float64) []float64 { return list }

// inf, nought: +Inf and -0.
func inf() float64    { return math.Inf(1) }
func nought() float64 { return math.Copysign(0, -1) }

const (
	tiny  = math.SmallestNonzeroFloat64
	vast  = math.MaxFloat64
	large = 1 << 53 // the least whole number whose sum with 1 rounds
)

// strange are numbers that are no node and no half-edge of a small net.
func strange() []int {
	return nums(-1, -2, -1<<32, 1<<32, 1024, 6144, math.MinInt, math.MinInt+1, math.MaxInt, math.MaxInt-1)
}

// wrong are nets that may not be.
func wrong() []api.Net {
	list := []api.Net{
		{N: -1}, {N: math.MinInt}, {N: 1025}, {N: math.MaxInt}, {N: 1 << 32},
		of(0, 0, 0), of(-1, 0, 0), of(1025, 0, 1), of(1, 0, 1), of(1, 1, 0), of(3, 0, 1, 1, 2, 3, 3),
		{N: 1, Edges: make([][2]int, 3073)}, {N: 1024, Edges: make([][2]int, 5000)},
	}
	for _, x := range strange() {
		list = append(list, of(4, 0, x), of(4, x, 0), of(4, x, x), of(4, 0, 1, 2, 3, 1, x), of(4, x, 1, 2, 3))
	}
	return list
}

// unfit are numbers that are no weights.
func unfit() []float64 {
	list := floats(-tiny, -1, -vast, math.Inf(-1), math.NaN())
	for _, bits := range []uint64{0x7ff0000000000001, 0x7ff8000000000000, 0xfff8000000000001, math.MaxUint64} {
		list = append(list, math.Float64frombits(bits))
	}
	return list
}

// some is a net of at most n nodes and m edges, all kinds of edges among them.
func some(r *rand.Rand, n, m int) api.Net {
	g := api.Net{N: r.Intn(n + 1)}
	if g.N == 0 {
		return g
	}
	for range r.Intn(m + 1) {
		g.Edges = append(g.Edges, [2]int{r.Intn(g.N), r.Intn(g.N)})
	}
	return g
}

// drawn are m weights, drawn from a few so that many are alike, or from all.
func drawn(r *rand.Rand, m int) []float64 {
	kinds := [][]float64{
		{0, nought()},
		{0, nought(), 1, 2, 3},
		{1},
		{tiny, 2 * tiny, 0, nought(), 1},
		{vast, vast / 2, vast / 4, 1e292, 1},
		{1, inf()},
		{large, 1, 1, 2, 3},
		{0.1, 0.2, 0.3, 0.7},
		{0, nought(), tiny, 1, 0.1, large, vast, inf()},
		nil,
	}
	kind := kinds[r.Intn(len(kinds))]
	w := make([]float64, m)
	for e := range w {
		if kind == nil {
			w[e] = math.Float64frombits(r.Uint64() % (math.Float64bits(inf()) + 1))
		} else {
			w[e] = kind[r.Intn(len(kind))]
		}
	}
	return w
}

// made hands on what a maker's call answers.
func made(t *testing.T) func(g api.Net, err api.Errno) api.Net {
	return func(g api.Net, err api.Errno) api.Net {
		t.Helper()
		if err != api.OK {
			t.Fatalf("the maker refused: %v", err)
		}
		return g
	}
}

// great are nets as great as they may be, or nearly.
func great(t *testing.T) []api.Net {
	must := made(t)
	return []api.Net{
		must(maker.Path(1024)), must(maker.Cycle(1024)), must(maker.Grid(32, 32)), must(maker.Wheel(1023)),
		must(maker.Complete(78)), must(maker.Two(48, 64)), must(maker.Bond(3072)), must(maker.Stack(1024, 3)),
		must(maker.Random(1024, 3072, 7)), must(maker.Random(1024, 900, 8)), must(maker.Random(1024, 0, 9)),
		{N: 1, Edges: make([][2]int, 3072)}, {N: 1024, Edges: make([][2]int, 3072)},
	}
}

// leaves: the node that the half-edge h leaves.
func leaves(g api.Net, h int) int { return g.Edges[h/2][h%2] }

func sameBits(a, b []float64) bool {
	return slices.EqualFunc(a, b, func(x, y float64) bool { return math.Float64bits(x) == math.Float64bits(y) })
}

func sameWays(a, b api.Ways) bool { return sameBits(a.Far, b.Far) && slices.Equal(a.By, b.By) }

// TestFrom: the chapter's examples, and what is easily told ahead.
func TestFrom(t *testing.T) {
	for _, row := range []struct {
		name string
		g    api.Net
		w    []float64
		s    int
		want api.Ways
	}{
		{"the example", example(), floats(1, 1, 3), 0, api.Ways{Far: floats(0, 1, 2), By: nums(-1, 0, 2)}},
		{"+Inf", example(), floats(1, inf(), inf()), 0, api.Ways{Far: floats(0, 1, inf()), By: nums(-1, 0, -1)}},
		{"-0", example(), floats(nought(), nought(), 0), 0, api.Ways{Far: floats(0, 0, 0), By: nums(-1, 0, 4)}},
		{"from the middle", example(), floats(1, 1, 3), 1, api.Ways{Far: floats(1, 0, 1), By: nums(1, -1, 2)}},
		{"from the end", example(), floats(1, 1, 3), 2, api.Ways{Far: floats(2, 1, 0), By: nums(1, 3, -1)}},
		{"as far the longer way", example(), floats(1, 1, 2), 0, api.Ways{Far: floats(0, 1, 2), By: nums(-1, 0, 4)}},
		{"one node", of(1), nil, 0, api.Ways{Far: floats(0), By: nums(-1)}},
		{"a loop", of(1, 0, 0), floats(0), 0, api.Ways{Far: floats(0), By: nums(-1)}},
		{"a loop of -0", of(1, 0, 0), floats(nought()), 0, api.Ways{Far: floats(0), By: nums(-1)}},
		{"nodes without edges", of(3), nil, 1, api.Ways{Far: floats(inf(), 0, inf()), By: nums(-1, -1, -1)}},
		{"parallel edges", of(2, 0, 1, 1, 0, 0, 1), floats(2, 1, 1), 0, api.Ways{Far: floats(0, 1), By: nums(-1, 3)}},
		{"parallel to +Inf", of(2, 0, 1, 1, 0), floats(inf(), vast), 0, api.Ways{Far: floats(0, vast), By: nums(-1, 3)}},
		{"two components", of(5, 4, 3, 1, 0, 2, 3), floats(1, 2, 4), 2, api.Ways{Far: floats(inf(), inf(), 0, 4, 5), By: nums(-1, -1, -1, 4, 1)}},
		{"a sum that comes to +Inf", of(4, 0, 1, 1, 2, 2, 3), floats(vast, vast, 0), 0, api.Ways{Far: floats(0, vast, inf(), inf()), By: nums(-1, 0, -1, -1)}},
		{"a sum just below +Inf", of(3, 0, 1, 1, 2), floats(vast, 1e291), 0, api.Ways{Far: floats(0, vast, vast), By: nums(-1, 0, 2)}},
		{"the least weights", of(3, 0, 1, 1, 2), floats(tiny, tiny), 0, api.Ways{Far: floats(0, tiny, 2*tiny), By: nums(-1, 0, 2)}},
		{"a sum that rounds, from its beginning on", of(4, 0, 1, 1, 2, 2, 3), floats(large, 1, 1), 0, api.Ways{Far: floats(0, large, large, large), By: nums(-1, 0, 2, 4)}},
		{"the same the other way about", of(4, 0, 1, 1, 2, 2, 3), floats(large, 1, 1), 3, api.Ways{Far: floats(large+2, 2, 1, 0), By: nums(1, 3, 5, -1)}},
		{"decimals", of(4, 0, 1, 1, 2, 2, 3), floats(0.1, 0.2, 0.3), 0, api.Ways{Far: floats(0, 0.1, 0.30000000000000004, 0.6000000000000001), By: nums(-1, 0, 2, 4)}},
		{"of several the least node goes out first", of(4, 0, 2, 0, 1, 2, 3, 1, 3), floats(1, 1, 1, 1), 0, api.Ways{Far: floats(0, 1, 1, 2), By: nums(-1, 2, 0, 6)}},
		{"the nearest goes out first", of(4, 0, 1, 0, 2, 1, 3, 2, 3), floats(2, 1, 1, 2), 0, api.Ways{Far: floats(0, 2, 1, 3), By: nums(-1, 0, 2, 6)}},
		{"one that waits comes nearer", of(5, 0, 4, 0, 1, 1, 4, 0, 2, 4, 3, 2, 3), floats(9, 1, 1, 5, 1, 1), 0, api.Ways{Far: floats(0, 1, 4, 3, 2), By: nums(-1, 2, 11, 8, 4)}},
	} {
		if got, e := From(row.g, row.w, row.s); e != api.OK || !sameWays(got, row.want) {
			t.Errorf("P7.1: %s: %v, %v, want %v", row.name, got, e, row.want)
		}
	}
}

// TestFromRefuses: ErrArg ahead of ErrWeight ahead of ErrBounds, and zero values with each.
func TestFromRefuses(t *testing.T) {
	refused := func(g api.Net, w []float64, s int, want api.Errno) {
		t.Helper()
		if got, e := From(g, w, s); e != want || !sameWays(got, api.Ways{}) {
			t.Errorf("P7.1: %d nodes, %d edges, weights %v, from %d: %v, %v, want %v", g.N, len(g.Edges), w, s, got, e, want)
		}
	}
	for _, g := range wrong() {
		for _, s := range append(strange(), 0, g.N-1, g.N) {
			refused(g, make([]float64, len(g.Edges)), s, api.ErrArg)
			refused(g, nil, s, api.ErrArg)
			refused(g, slices.Repeat(floats(math.NaN()), len(g.Edges)), s, api.ErrArg)
		}
	}
	for _, s := range append(strange(), 0, 2, 3) {
		for _, n := range nums(0, 1, 2, 4, 5, 4000) {
			refused(example(), make([]float64, n), s, api.ErrArg)
			refused(example(), slices.Repeat(floats(-1), n), s, api.ErrArg)
		}
		for _, x := range unfit() {
			refused(example(), floats(x, 1, 1), s, api.ErrWeight)
			refused(example(), floats(1, inf(), x), s, api.ErrWeight)
		}
	}
	refused(of(2), floats(1), 0, api.ErrArg)
	for _, s := range append(strange(), 3, 4) {
		refused(example(), floats(1, 1, 1), s, api.ErrBounds)
		refused(of(0), nil, s, api.ErrBounds)
	}
	refused(of(0), nil, 0, api.ErrBounds)
	refused(of(1), nil, 1, api.ErrBounds)
	refused(of(1024), nil, 1024, api.ErrBounds)
}

// byTheWords goes Dijkstra's way as the chapter tells it, looking through all nodes and all half-edges each time.
func byTheWords(g api.Net, w []float64, s int) api.Ways {
	ways := api.Ways{Far: slices.Repeat(floats(inf()), g.N), By: slices.Repeat(nums(-1), g.N)}
	settled := make([]bool, g.N)
	ways.Far[s] = 0
	for {
		u := -1
		for v := range g.N {
			if !settled[v] && ways.Far[v] < inf() && (u < 0 || ways.Far[v] < ways.Far[u]) {
				u = v
			}
		}
		if u < 0 {
			return ways
		}
		settled[u] = true
		for h := range 2 * len(g.Edges) {
			if leaves(g, h) != u || w[h/2] == inf() {
				continue
			}
			v, far := leaves(g, h^1), ways.Far[u]+math.Abs(w[h/2])
			if far < ways.Far[v] {
				ways.Far[v], ways.By[v] = far, h
			}
		}
	}
}

func checkFrom(t *testing.T, g api.Net, w []float64, s int) {
	t.Helper()
	got, e := From(g, w, s)
	if e != api.OK || len(got.Far) != g.N || len(got.By) != g.N {
		t.Fatalf("P7.1: %v, %v from %d: %v, %v", g, w, s, got, e)
	}
	if want := byTheWords(g, w, s); !sameWays(got, want) {
		t.Fatalf("P7.1: %v, %v from %d: %v, want %v", g, w, s, got, want)
	}
	for v, h := range got.By { // what follows: each Far is a sum, and no half-edge leads to a lesser one
		reached := got.Far[v] < inf()
		if (h >= 0) != (reached && v != s) || h >= 0 && got.Far[v] != got.Far[leaves(g, h)]+w[h/2] {
			t.Fatalf("P7.1: %v, %v from %d: %v at %d", g, w, s, got, v)
		}
	}
	for h := range 2 * len(g.Edges) {
		if far := got.Far[leaves(g, h)] + w[h/2]; far < got.Far[leaves(g, h^1)] {
			t.Fatalf("P7.1: %v, %v from %d: %v, and %d leads to %v", g, w, s, got, h, far)
		}
	}
}

func TestFromByTheWords(t *testing.T) {
	r := rand.New(rand.NewSource(1))
	for i := range 6000 {
		g := some(r, 2+i%9, 3+i%17)
		w := drawn(r, len(g.Edges))
		for s := range g.N {
			checkFrom(t, g, w, s)
		}
	}
}

func TestFromOfGreatNets(t *testing.T) {
	r := rand.New(rand.NewSource(2))
	for _, g := range great(t) {
		for range 3 {
			checkFrom(t, g, drawn(r, len(g.Edges)), r.Intn(g.N))
		}
	}
}

// TestLeastLength: where no sum rounds, Far is the least length of a way, found here by going over all edges again and again.
func TestLeastLength(t *testing.T) {
	r := rand.New(rand.NewSource(3))
	for i := range 2000 {
		g := some(r, 2+i%12, 3+i%30)
		if g.N == 0 {
			continue
		}
		w := make([]float64, len(g.Edges))
		for e := range w {
			w[e] = float64(r.Intn(9))
		}
		s := r.Intn(g.N)
		far := slices.Repeat(floats(inf()), g.N)
		far[s] = 0
		for range g.N {
			for e, ends := range g.Edges {
				far[ends[0]] = min(far[ends[0]], far[ends[1]]+w[e])
				far[ends[1]] = min(far[ends[1]], far[ends[0]]+w[e])
			}
		}
		if got, _ := From(g, w, s); !sameBits(got.Far, far) {
			t.Fatalf("P7.1: %v, %v from %d: %v, want %v", g, w, s, got.Far, far)
		}
	}
}

// TestRow: the ways of 1,024 nodes in a row are known ahead.
func TestRow(t *testing.T) {
	g := made(t)(maker.Path(1024))
	ways, e := From(g, slices.Repeat(floats(0.5), 1023), 0)
	if e != api.OK {
		t.Fatalf("P7.1: %v", e)
	}
	for v := range 1024 {
		by := 2 * (v - 1)
		if v == 0 {
			by = -1
		}
		if ways.Far[v] != float64(v)/2 || ways.By[v] != by {
			t.Fatalf("P7.1: at %d: %v, %d", v, ways.Far[v], ways.By[v])
		}
	}
	way, e := To(ways, g, 1023)
	if e != api.OK || len(way) != 1023 {
		t.Fatalf("P7.2: %d half-edges, %v", len(way), e)
	}
	for i, h := range way {
		if h != 2*i {
			t.Fatalf("P7.2: %d at %d", h, i)
		}
	}
}

// TestZeroSigns: whatever has -0 for +0 comes to the same.
func TestZeroSigns(t *testing.T) {
	r := rand.New(rand.NewSource(4))
	for range 1000 {
		g := some(r, 8, 16)
		w := make([]float64, len(g.Edges))
		for e := range w {
			w[e] = float64(r.Intn(2))
		}
		signed := slices.Clone(w)
		for e := range signed {
			if signed[e] == 0 && r.Intn(2) == 0 {
				signed[e] = nought()
			}
		}
		for s := range g.N {
			a, _ := From(g, w, s)
			if b, _ := From(g, signed, s); !sameWays(a, b) {
				t.Fatalf("P7.1: %v, %v from %d: %v, %v", g, signed, s, a, b)
			}
		}
		a, x, _ := Least(g, w)
		if b, y, _ := Least(g, signed); !slices.Equal(a, b) || !sameBits(floats(x), floats(y)) {
			t.Fatalf("P7.3: %v, %v: %v, %v, then %v, %v", g, signed, a, x, b, y)
		}
	}
}
