package maxi

import (
	"math/rand"
	"slices"
	"testing"

	"tracery/api"
	"tracery/maker"
	"tracery/net"
)

// TestExamples: each row of the chapter's examples.
func TestExamples(t *testing.T) {
	five := core(t, 5)
	if kept, err := Keep(five, upTo(10)); !slices.Equal(kept, upTo(9)) || err != api.OK {
		t.Errorf("P14.1: Keep(Complete(5), by number): %v, %v", kept, err)
	}
	layer, count, err := Layers(five)
	if !slices.Equal(layer, nums(0, 0, 0, 0, 0, 0, 0, 0, 0, 1)) || count != 2 || err != api.OK {
		t.Errorf("P14.2: Layers(Complete(5)): %v, %d, %v", layer, count, err)
	}
	if kept, err := Keep(five, downFrom(9)); !slices.Equal(kept, nums(1, 2, 3, 4, 5, 6, 7, 8, 9)) || err != api.OK {
		t.Errorf("P14.1: Keep(Complete(5), from 9 down): %v, %v", kept, err)
	}
	if edges, err := Why(five, 9); !slices.Equal(edges, upTo(10)) || err != api.OK {
		t.Errorf("P14.3: Why(Complete(5), 9): %v, %v", edges, err)
	}
}

// TestWrongNets: ErrArg of each call, ahead of whatever else is wrong, and nothing beside it.
func TestWrongNets(t *testing.T) {
	for _, g := range wrong() {
		m := len(g.Edges)
		for _, order := range [][]int{nil, upTo(m), downFrom(m - 1), nums(0), nums(0, 0), nums(-1), append(upTo(m), 0), append(upTo(m), m)} {
			if kept, err := Keep(g, order); err != api.ErrArg || len(kept) != 0 {
				t.Fatalf("P14: Keep(%d nodes, %d edges; %d numbers): %v, %v", g.N, m, len(order), kept, err)
			}
		}
		if sub, turn, kept, err := Sub(g); err != api.ErrArg || sub.N != 0 || len(sub.Edges) != 0 || len(turn) != 0 || len(kept) != 0 {
			t.Errorf("P14: Sub(%d nodes, %d edges): %v, %v, %v, %v", g.N, m, sub, turn, kept, err)
		}
		if layer, count, err := Layers(g); err != api.ErrArg || len(layer) != 0 || count != 0 {
			t.Errorf("P14: Layers(%d nodes, %d edges): %v, %d, %v", g.N, m, layer, count, err)
		}
		for _, e := range append(strange(), 0, 1, m-1, m) {
			if edges, err := Why(g, e); err != api.ErrArg || len(edges) != 0 {
				t.Errorf("P14: Why(%d nodes, %d edges; %d): %v, %v", g.N, m, e, edges, err)
			}
		}
	}
}

// TestWrongOrders: the first fault in the list counts; that there are too few comes behind.
func TestWrongOrders(t *testing.T) {
	five, all := core(t, 5), upTo(10)
	changed := func(at, to int) []int {
		list := slices.Clone(all)
		list[at] = to
		return list
	}
	rows := []struct {
		order []int
		want  api.Errno
	}{
		{nil, api.ErrBounds},
		{nums(), api.ErrBounds},
		{nums(0), api.ErrBounds},
		{all[:9], api.ErrBounds},
		{all[1:], api.ErrBounds},
		{nums(0, 0), api.ErrExists},
		{nums(4, 7, 4), api.ErrExists},
		{nums(0, 0, 10), api.ErrExists},
		{nums(0, 10, 0), api.ErrBounds},
		{nums(10, 0, 0), api.ErrBounds},
		{nums(3, 3, -1), api.ErrExists},
		{nums(-1, 3, 3), api.ErrBounds},
		{nums(10, 10), api.ErrBounds},
		{changed(9, 0), api.ErrExists},
		{changed(0, 9), api.ErrExists},
		{changed(9, 10), api.ErrBounds},
		{append(changed(4, 3), -1), api.ErrExists},
		{append(changed(4, -1), 3), api.ErrBounds},
		{append(slices.Clone(all), 0), api.ErrExists},
		{append(slices.Clone(all), 9, 10), api.ErrExists},
		{append(slices.Clone(all), 10), api.ErrBounds},
		{append(slices.Clone(all), 10, 9), api.ErrBounds},
		{make([]int, 1<<20), api.ErrExists},
		{slices.Repeat(nums(-5), 1<<20), api.ErrBounds},
	}
	for _, x := range strange() {
		rows = append(rows, rows[0], rows[0], rows[0])
		last := rows[len(rows)-3:]
		last[0].order, last[1].order, last[2].order = nums(x), changed(6, x), append(nums(2, 2), x)
		last[2].want = api.ErrExists
	}
	for _, row := range rows {
		if kept, err := Keep(five, row.order); err != row.want || len(kept) != 0 {
			t.Errorf("P14.1: Keep(Complete(5), %d numbers, %v ..): %v, %v, not %v", len(row.order), row.order[:min(len(row.order), 12)], kept, err, row.want)
		}
	}
	for _, g := range []api.Net{of(0), of(1), of(1024)} {
		for _, order := range [][]int{nil, nums()} {
			if kept, err := Keep(g, order); err != api.OK || len(kept) != 0 {
				t.Errorf("P14.1: Keep(%d nodes alone): %v, %v", g.N, kept, err)
			}
		}
		for _, order := range [][]int{nums(0), nums(0, 0), nums(-1)} {
			if kept, err := Keep(g, order); err != api.ErrBounds || len(kept) != 0 {
				t.Errorf("P14.1: Keep(%d nodes alone, %v): %v, %v", g.N, order, kept, err)
			}
		}
	}
}

// TestWhyRefused: ErrBounds of an edge that there is not, ErrNone of one that is kept, and nothing beside them.
func TestWhyRefused(t *testing.T) {
	must := made(t)
	for _, g := range []api.Net{of(0), of(1), of(7), of(1, 0, 0), core(t, 5), core(t, 33), petersen(), must(maker.Stack(30, 1))} {
		for _, e := range append(strange(), len(g.Edges), len(g.Edges)+1) {
			if edges, err := Why(g, e); err != api.ErrBounds || len(edges) != 0 {
				t.Errorf("P14.3: Why(%d nodes, %d edges; %d): %v, %v", g.N, len(g.Edges), e, edges, err)
			}
		}
	}
	for _, g := range []api.Net{of(1, 0, 0), of(2, 0, 1, 1, 0, 1, 1), must(maker.Stack(30, 1)), with(core(t, 5), 2, 2, 1, 0)} {
		for e := range g.Edges {
			if e == 9 && g.N == 5 {
				continue
			}
			if edges, err := Why(g, e); err != api.ErrNone || len(edges) != 0 {
				t.Errorf("P14.3: Why(%d nodes, %d edges; %d): %v, %v", g.N, len(g.Edges), e, edges, err)
			}
		}
	}
}

type looked struct {
	name   string
	g      api.Net
	left   []int // the edges that Sub leaves out
	layers int
}

// rows are nets of which it is known by hand what is left out.
func rows(t *testing.T) []looked {
	must := made(t)
	k4, k5, k33 := must(maker.Complete(4)), core(t, 5), core(t, 33)
	join := func(a, b api.Net) api.Net { return must(net.Join(a, b)) }
	return []looked{
		{"no node", of(0), nil, 0},
		{"a node alone", of(1), nil, 0},
		{"nodes alone", of(7), nil, 0},
		{"as many nodes as may be", of(1024), nil, 0},
		{"a loop", of(1, 0, 0), nil, 1},
		{"loops at one node", of(1, 0, 0, 0, 0, 0, 0), nil, 1},
		{"an edge", of(2, 0, 1), nil, 1},
		{"an edge the other way about", of(3, 2, 0), nil, 1},
		{"parallel edges and loops between", of(2, 0, 0, 1, 0, 0, 0, 0, 1, 1, 1, 1, 0), nil, 1},
		{"a row", must(maker.Path(9)), nil, 1},
		{"a cycle", must(maker.Cycle(9)), nil, 1},
		{"two cycles with a node in common", of(5, 0, 1, 4, 3, 1, 2, 3, 2, 2, 0, 2, 4), nil, 1},
		{"two cycles with a bridge between", of(6, 3, 4, 0, 1, 2, 3, 1, 2, 4, 5, 0, 2, 5, 3), nil, 1},
		{"blocks of all kinds at one node", of(7, 0, 1, 0, 2, 2, 3, 3, 0, 0, 0, 4, 0, 0, 4, 0, 5, 5, 6, 6, 0, 5, 0, 0, 0), nil, 1},
		{"K4 three times", join(join(k4, k4), k4), nil, 1},
		{"K5 without an edge", must(net.Sub(k5, nums(9, 8, 7, 6, 5, 4, 3, 2, 1))), nil, 1},
		{"K5", k5, nums(9), 2},
		{"K3,3", k33, nums(8), 2},
		{"K5, its edges from behind", must(net.Sub(k5, downFrom(9))), nums(9), 2},
		{"K5, a loop ahead and one behind", with(must(net.Sub(with(k5, 1, 1), nums(10, 0, 1, 2, 3, 4, 5, 6, 7, 8, 9))), 4, 4), nums(10), 2},
		{"K5, parallel to a kept edge", with(k5, 1, 0, 3, 2, 2, 3), nums(9), 2},
		{"K5, parallel to the edge left out", with(k5, 4, 3, 3, 4), nums(9, 10, 11), 2},
		{"K5, loops and parallel edges of all kinds", with(k5, 3, 3, 4, 3, 0, 4, 3, 4, 4, 4), nums(9, 11, 13), 2},
		{"K5, each edge twice in a row", doubled(k5), nums(18, 19), 2},
		{"K3,3, each edge twice in a row", doubled(k33), nums(16, 17), 2},
		{"K5, all of it again", with(k5, ends(k5)...), nums(9, 19), 2},
		{"K5 and nodes alone", wider(k5, 4), nums(9), 2},
		{"K5 and a tree that hangs there", with(wider(k5, 4), 0, 5, 5, 6, 5, 7, 8, 2), nums(9), 2},
		{"K5 twice", join(k5, k5), nums(9, 19), 2},
		{"K5 and K3,3", join(k5, k33), nums(9, 18), 2},
		{"K5 behind a net that is planar", join(k4, k5), nums(15), 2},
		{"K5 and K3,3 with a node in common", joined(net.Merge(join(k5, k33), 2, 7)), nums(9, 18), 2},
		{"K5 and K3,3 with a bridge between", with(join(k33, k5), 0, 7), nums(8, 18), 2},
		{"K5, an edge split", must(net.Split(k5, 2)), nums(10), 2},
		{"K5, the last edge split", must(net.Split(k5, 9)), nums(10), 2},
		{"the cube with its longest diagonal", with(must(maker.Prism(4)), 0, 6), nums(12), 2},
		{"a wheel, two chords that cross", with(must(maker.Wheel(6)), 0, 3, 1, 4), nums(13), 2},
		{"a grid, edges from its border to its midst", with(must(maker.Grid(5, 5)), 2, 12, 0, 24, 12, 22), nums(40, 42), 2},
	}
}

// doubled is g with each edge twice, the second time the other way about.
func doubled(g api.Net) api.Net {
	twice := api.Net{N: g.N}
	for _, ends := range g.Edges {
		twice = with(twice, ends[0], ends[1], ends[1], ends[0])
	}
	return twice
}

// ends are those of all edges in a row.
func ends(g api.Net) []int {
	var row []int
	for _, ends := range g.Edges {
		row = append(row, ends[0], ends[1])
	}
	return row
}

// TestRows: what is left out, and in how many layers, where it is known.
func TestRows(t *testing.T) {
	r := rand.New(rand.NewSource(140))
	for _, row := range rows(t) {
		kept := certified(t, r, row.name, row.g)
		if left := leftOut(row.g, kept); !slices.Equal(left, row.left) {
			t.Errorf("P14.1: Sub of %s leaves out %v, not %v", row.name, left, row.left)
		}
		if _, count, err := Layers(row.g); count != row.layers || err != api.OK {
			t.Errorf("P14.2: Layers of %s: %d, %v, not %d", row.name, count, err, row.layers)
		}
	}
}
