package insert

import (
	"math"
	"slices"
	"testing"

	"tracery/api"
	"tracery/maker"
	"tracery/net"
	"tracery/planar"
)

// wrong are nets that may not be.
func wrong() []api.Net {
	list := []api.Net{
		{N: -1}, {N: math.MinInt}, {N: 1025}, {N: math.MaxInt}, {N: 1 << 32},
		of(0, 0, 0), of(-1, 0, 0), of(1025, 0, 1), of(1, 0, 1), of(1, 1, 0), of(3, 0, 1, 1, 2, 3, 3),
		{N: 1, Edges: make([][2]int, 3073)}, {N: 1024, Edges: make([][2]int, 5000)},
	}
	for _, x := range strange() {
		list = append(list, of(4, 0, x), of(4, x, 0), of(4, 0, 1, 2, 3, 1, x), of(4, x, 1, 2, 3))
	}
	return list
}

// twoParts is a net of two components and a node alone, with a rotation that is planar and one that is not.
func twoParts() (api.Net, api.Rot, api.Rot) {
	g := of(5, 0, 1, 0, 1, 0, 1, 2, 3)
	return g, api.Rot{{0, 2, 4}, {1, 5, 3}, {6}, {7}, nil}, api.Rot{{0, 2, 4}, {1, 3, 5}, {6}, {7}, nil}
}

// noRotations are lists that are no rotation of twoParts.
func noRotations() []api.Rot {
	_, x, torus := twoParts()
	list := []api.Rot{nil, {}, x[:4], append(copied(x), nil), make(api.Rot, 5), make(api.Rot, 1025), {slices.Repeat([]int{0}, 7000), nil, nil, nil, nil}}
	for _, bad := range append(strange(), 0, 1, 8, 9) {
		for _, from := range []api.Rot{x, torus} {
			one, more := copied(from), copied(from)
			one[3][0] = bad
			more[2] = append(more[2], bad)
			list = append(list, one, more)
		}
	}
	return list
}

// TestRefusedInOrder: of several errors the first one, for all that may be wrong at once.
func TestRefusedInOrder(t *testing.T) {
	g, x, torus := twoParts()
	pairs := []struct {
		u, v int
		err  api.Errno
	}{{0, 0, api.ErrArg}, {4, 4, api.ErrArg}, {0, 2, api.ErrConn}, {3, 1, api.ErrConn}, {4, 0, api.ErrConn}, {2, 4, api.ErrConn}}
	for _, bad := range append(strange(), 5, 6) {
		for _, other := range []int{bad, 0, 4} {
			pairs = append(pairs, struct {
				u, v int
				err  api.Errno
			}{bad, other, api.ErrBounds}, struct {
				u, v int
				err  api.Errno
			}{other, bad, api.ErrBounds})
		}
	}
	for _, p := range pairs {
		refused(t, g, x, p.u, p.v, p.err)
		refused(t, g, torus, p.u, p.v, api.ErrGenus)
		for _, none := range noRotations() {
			refused(t, g, none, p.u, p.v, api.ErrRot)
		}
		for _, bad := range wrong() {
			refused(t, bad, x, p.u, p.v, api.ErrArg)
			refused(t, bad, nil, p.u, p.v, api.ErrArg)
		}
	}
}

// TestRefusedAlone: each error where nothing else is wrong.
func TestRefusedAlone(t *testing.T) {
	g, x, torus := twoParts()
	for _, row := range []struct {
		name string
		g    api.Net
		x    api.Rot
		u, v int
		err  api.Errno
	}{
		{"an edge that leads nowhere", with(g, 4, 5), x, 0, 1, api.ErrArg},
		{"a half-edge too few", g, api.Rot{{0, 2, 4}, {1, 5}, {6}, {7}, nil}, 0, 1, api.ErrRot},
		{"a list too many", g, append(copied(x), nil), 0, 1, api.ErrRot},
		{"a half-edge of another node", g, api.Rot{{0, 2, 5}, {1, 4, 3}, {6}, {7}, nil}, 0, 1, api.ErrRot},
		{"genus 1", g, torus, 0, 1, api.ErrGenus},
		{"genus 1 elsewhere", g, torus, 2, 3, api.ErrGenus},
		{"loops through one another", of(2, 0, 1, 0, 0, 0, 0), api.Rot{{0, 2, 4, 3, 5}, {1}}, 0, 1, api.ErrGenus},
		{"no u", g, x, 5, 1, api.ErrBounds},
		{"no v", g, x, 0, 5, api.ErrBounds},
		{"a u below 0", g, x, -1, 1, api.ErrBounds},
		{"a v below 0", g, x, 0, -1, api.ErrBounds},
		{"no node at all", of(0), nil, 0, 0, api.ErrBounds},
		{"the same", g, x, 1, 1, api.ErrArg},
		{"one node, the same", of(1), api.Rot{nil}, 0, 0, api.ErrArg},
		{"two components", g, x, 1, 2, api.ErrConn},
		{"a node alone", g, x, 4, 3, api.ErrConn},
		{"two nodes alone", of(2), api.Rot{nil, nil}, 0, 1, api.ErrConn},
	} {
		t.Run(row.name, func(t *testing.T) { refused(t, row.g, row.x, row.u, row.v, row.err) })
	}
}

// padded is an onion with more nodes alone, and more loops at its node without.
func padded(loops, nodes, edges int) (api.Net, api.Rot) {
	g, x := onion(loops)
	g.N += nodes
	x = append(x, make(api.Rot, nodes)...)
	for range edges {
		x[2] = append(x[2], 2*len(g.Edges), 2*len(g.Edges)+1)
		g.Edges = append(g.Edges, [2]int{2, 2})
	}
	return g, x
}

// TestLimit: as many nodes and edges as may be, one below and one above; the route is told all the same.
func TestLimit(t *testing.T) {
	t.Parallel()
	for _, loops := range []int{0, 1, 2, 40} {
		for _, nodes := range []int{1023, 1024, 1025} {
			for _, edges := range []int{3071, 3072, 3073} {
				g, x := padded(loops, min(nodes-3-loops, 1021), min(edges-3*loops-3, 3070-loops))
				nodes, edges := g.N+loops, len(g.Edges)+2*loops+1
				if n, err := Cost(g, x, 1, 2); n != loops || err != api.OK {
					t.Fatalf("P19.1: Cost of %v: %d, %v, not %d", told(g), n, err, loops)
				}
				m, _, way, err := Cross(g, x, 1, 2)
				if may := nodes <= 1024 && edges <= 3072; (err == api.OK) != may || may && (m.N != nodes || len(m.Edges) != edges || len(way) != loops+1) {
					t.Fatalf("P19.2: Cross of %v over %d edges, %d and %d with what comes: %v", told(g), loops, nodes, edges, err)
				}
				checkCross(t, g, x, 1, 2)
			}
		}
	}
}

// TestFullRefused: of full nets ErrLimit comes behind all else.
func TestFullRefused(t *testing.T) {
	t.Parallel()
	g, x := padded(1018, 1, 2052)
	if len(g.Edges) != 3072 || g.N != 4 {
		t.Fatalf("%v is not full", told(g))
	}
	through := copied(x) // two of the last node's loops through one another
	through[2][2], through[2][3] = through[2][3], through[2][2]
	refused(t, with(g, 0, 1), x, 1, 2, api.ErrArg)
	refused(t, g, x[:3], 1, 2, api.ErrRot)
	refused(t, g, through, 1, 2, api.ErrGenus)
	refused(t, g, x, 1, 4, api.ErrBounds)
	refused(t, g, x, 1, 1, api.ErrArg)
	refused(t, g, x, 1, 3, api.ErrConn)
	for _, pair := range [][2]int{{1, 2}, {1, 0}, {0, 2}} {
		n, err := Cost(g, x, pair[0], pair[1])
		if a := ask(g, x, pair[0], pair[1]); err != api.OK || a.cost != n || a.errs != [3]api.Errno{api.OK, api.OK, api.ErrLimit} || !a.nothing() {
			t.Errorf("P19.2: Cross of %v over %d edges: %v", told(g), n, a.errs)
		}
	}
}

// TestFullBond: parallel edges, as many as may be, and one fewer.
func TestFullBond(t *testing.T) {
	t.Parallel()
	full := made(t)(maker.Bond(3072))
	x, _ := planar.Embed(full)
	if _, _, way, err := Cross(full, x, 0, 1); err != api.ErrLimit || len(way) != 0 {
		t.Errorf("P19.2: Cross of 3,072 edges: %v", err)
	}
	refused(t, full, x, 1, 1, api.ErrArg)
	less := made(t)(net.Sub(full, indices(3071)))
	x, _ = planar.Embed(less)
	checkCross(t, less, x, 0, 1)
	if m, _, _, err := Cross(less, x, 1, 0); err != api.OK || len(m.Edges) != 3072 {
		t.Errorf("P19.2: Cross of 3,071 edges: %v", err)
	}
}

func indices(n int) []int {
	list := make([]int, n)
	for i := range list {
		list[i] = i
	}
	return list
}
