package path

import (
	"math"
	"math/rand"
	"slices"
	"testing"

	"tracery/api"
	"tracery/maker"
)

// ways has By, and Far 0 of each node.
func ways(by ...int) api.Ways { return api.Ways{Far: make([]float64, len(by)), By: by} }

func TestTo(t *testing.T) {
	row := of(4, 0, 1, 2, 1, 2, 3)
	for _, c := range []struct {
		name string
		ws   api.Ways
		g    api.Net
		t    int
		way  []int
	}{
		{"the example", api.Ways{Far: floats(0, 1, 2), By: nums(-1, 0, 2)}, example(), 2, nums(0, 2)},
		{"the beginning", api.Ways{Far: floats(0, 1, 2), By: nums(-1, 0, 2)}, example(), 0, nil},
		{"one step", api.Ways{Far: floats(0, 1, 2), By: nums(-1, 0, 2)}, example(), 1, nums(0)},
		{"from the first on", ways(-1, 0, 3, 4), row, 3, nums(0, 3, 4)},
		{"from the midst", ways(-1, -1, 3, 4), row, 3, nums(3, 4)},
		{"the other way about", ways(1, 2, 5, -1), row, 0, nums(5, 2, 1)},
		{"a node", ways(-1), of(1), 0, nil},
		{"a node with a loop", ways(-1), of(1, 0, 0), 0, nil},
		{"the second of parallel edges", ways(-1, 3), of(2, 0, 1, 1, 0), 1, nums(3)},
		{"what is beside the way does not count", ways(-1, 0, 99, -7), row, 1, nums(0)},
		{"Far of others does not count", api.Ways{Far: floats(inf(), inf(), 0), By: nums(-1, 0, 2)}, example(), 2, nums(0, 2)},
		{"Far may be a NaN", api.Ways{Far: floats(0, math.NaN(), 0), By: nums(-1, 0, 2)}, example(), 1, nums(0)},
		{"Far may be -Inf", api.Ways{Far: floats(0, math.Inf(-1), 0), By: nums(-1, 0, 2)}, example(), 1, nums(0)},
		{"Far may be the greatest", api.Ways{Far: floats(0, vast, -vast), By: nums(-1, 0, 2)}, example(), 1, nums(0)},
	} {
		if way, e := To(c.ws, c.g, c.t); e != api.OK || !slices.Equal(way, c.way) {
			t.Errorf("P7.2: %s: %v, %v, want %v", c.name, way, e, c.way)
		}
	}
}

func refusedWay(t *testing.T, ws api.Ways, g api.Net, v int, want api.Errno) {
	t.Helper()
	if way, e := To(ws, g, v); e != want || len(way) > 0 {
		t.Errorf("P7.2: %d nodes, %d edges, %v to %d: %v, %v, want %v", g.N, len(g.Edges), ws, v, way, e, want)
	}
}

// TestToRefuses: ErrArg ahead of ErrBounds, ahead of ErrNone.
func TestToRefuses(t *testing.T) {
	for _, g := range wrong() {
		n := max(0, min(g.N, 5000))
		for _, v := range append(strange(), 0, n-1, n) {
			refusedWay(t, api.Ways{Far: make([]float64, n), By: slices.Repeat(nums(-1), n)}, g, v, api.ErrArg)
			refusedWay(t, api.Ways{}, g, v, api.ErrArg)
		}
	}
	for far := range 6 {
		for by := range 6 {
			ws := api.Ways{Far: slices.Repeat(floats(inf()), far), By: slices.Repeat(nums(99), by)}
			for _, v := range append(strange(), 3) {
				want := api.ErrArg
				if far == 3 && by == 3 {
					want = api.ErrBounds
				}
				refusedWay(t, ws, example(), v, want)
			}
			if far != 3 || by != 3 {
				refusedWay(t, ws, example(), 0, api.ErrArg)
			}
		}
	}
	for _, v := range append(strange(), 0) {
		refusedWay(t, api.Ways{}, of(0), v, api.ErrBounds)
		refusedWay(t, api.Ways{By: nums(-1)}, of(0), v, api.ErrArg)
		refusedWay(t, api.Ways{Far: floats(0)}, of(0), v, api.ErrArg)
	}
}

// TestNoWay: ErrNone of what From never answers, and of what it does not reach.
func TestNoWay(t *testing.T) {
	row := of(4, 0, 1, 2, 1, 2, 3)
	none := func(ws api.Ways, g api.Net, v int) {
		t.Helper()
		refusedWay(t, ws, g, v, api.ErrNone)
	}
	none(api.Ways{Far: floats(0, 1, inf()), By: nums(-1, 0, -1)}, example(), 2)
	none(api.Ways{Far: floats(0, 1, inf()), By: nums(-1, 0, 2)}, example(), 2)
	none(api.Ways{Far: floats(inf()), By: nums(-1)}, of(1), 0)
	for _, x := range append(strange(), 6, 7, 8) { // no half-edges
		if x != -1 {
			none(ways(-1, 0, x, 4), row, 2)
			none(ways(-1, 0, x, 4), row, 3)
			none(ways(x, 0, 3, 4), row, 3)
			none(ways(x), of(1), 0)
		}
	}
	for _, h := range nums(0, 1, 2, 4) { // of all but 3 and 5 none comes to 2
		none(ways(-1, 0, h, 4), row, 2)
		none(ways(-1, 0, h, 4), row, 3)
	}
	none(ways(-1, 1, 3, 4), row, 3)
	none(ways(1, 0, -1, -1), row, 0)        // there and back
	none(ways(1, 0, 3, 4), row, 3)          // a way that comes to such a round
	none(ways(5, 0, 2), example(), 0)       // round the three
	none(ways(0, -1), of(2, 0, 0, 0, 1), 0) // a loop, one way
	none(ways(1, -1), of(2, 0, 0, 0, 1), 0) // and the other
	none(ways(0, 2), of(2, 0, 0, 0, 1), 1)  // a way from a loop
	none(ways(3, 0), of(2, 0, 1, 0, 1), 1)  // parallel edges
	none(ways(0, 1), of(2, 0, 1, 0, 1), 0)  // twins, each at the wrong end
	none(ways(-1, -1, 0), of(3, 0, 1), 2)   // an edge elsewhere
}

// TestLongRounds: a round of as many nodes as there may be has no end; a way through all of them has one.
func TestLongRounds(t *testing.T) {
	g := made(t)(maker.Cycle(1024))
	by := make([]int, 1024)
	for v := range by {
		by[v] = 2 * ((v + 1023) % 1024)
	}
	for v := range 1024 {
		refusedWay(t, ways(by...), g, v, api.ErrNone)
	}
	for start := 0; start < 1024; start += 33 {
		open := slices.Clone(by)
		open[start] = -1
		last := (start + 1023) % 1024
		way, e := To(ways(open...), g, last)
		if e != api.OK || len(way) != 1023 || way[0] != 2*start || way[1022] != by[last] {
			t.Fatalf("P7.2: from %d: %d half-edges, %v", start, len(way), e)
		}
	}
}

// leadsBack goes back by the words, by calls within calls: whether there is an end in so many steps, and the way.
func leadsBack(g api.Net, by []int, v, steps int) ([]int, bool) {
	h := by[v]
	if h == -1 {
		return nil, true
	}
	if steps == 0 || h < 0 || h >= 2*len(g.Edges) || leaves(g, h^1) != v {
		return nil, false
	}
	way, ok := leadsBack(g, by, leaves(g, h), steps-1)
	return append(way, h), ok
}

// TestToByTheWords: ways drawn with half-edges that come to their node mostly, and with others.
func TestToByTheWords(t *testing.T) {
	r := rand.New(rand.NewSource(5))
	ended, lost := 0, 0
	for range 6000 {
		g := some(r, 8, 20)
		ws := api.Ways{Far: make([]float64, g.N), By: slices.Repeat(nums(-1), g.N)}
		for h := range 2 * len(g.Edges) {
			if r.Intn(3) == 0 {
				ws.By[leaves(g, h^1)] = h
			}
		}
		if g.N > 0 && r.Intn(3) == 0 {
			ws.By[r.Intn(g.N)] = r.Intn(2*len(g.Edges)+4) - 2
		}
		for v := range g.N {
			way, e := To(ws, g, v)
			want, ok := leadsBack(g, ws.By, v, g.N)
			switch {
			case ok && (e != api.OK || !slices.Equal(way, want)), !ok && (e != api.ErrNone || len(way) > 0):
				t.Fatalf("P7.2: %v, %v to %d: %v, %v, want %v", g, ws, v, way, e, want)
			case ok && len(way) > 0:
				ended++
			case !ok:
				lost++
			}
		}
	}
	if ended < 1000 || lost < 1000 {
		t.Fatalf("%d ways with an end and %d without are too few", ended, lost)
	}
}

// TestToOfFrom: the way to each node that is reached begins at s, comes there, and is as long as Far tells.
func TestToOfFrom(t *testing.T) {
	r := rand.New(rand.NewSource(6))
	nets := great(t)
	for i := range 3000 {
		nets = append(nets, some(r, 2+i%9, 3+i%17))
	}
	for _, g := range nets {
		if g.N == 0 {
			continue
		}
		w, s := drawn(r, len(g.Edges)), r.Intn(g.N)
		ws, _ := From(g, w, s)
		for v := range g.N {
			way, e := To(ws, g, v)
			if ws.Far[v] == inf() {
				refusedWay(t, ws, g, v, api.ErrNone)
				continue
			}
			at, far := s, 0.0
			for _, h := range way {
				if leaves(g, h) != at {
					t.Fatalf("P7.2: %v, %v from %d to %d: %v", g, w, s, v, way)
				}
				at, far = leaves(g, h^1), far+w[h/2]
			}
			if e != api.OK || at != v || far != ws.Far[v] {
				t.Fatalf("P7.2: %v, %v from %d to %d: %v, %v: %v, want %v", g, w, s, v, way, e, far, ws.Far[v])
			}
		}
	}
}
