package graph

import (
	"math"
	"slices"
	"testing"

	"tracery/api"
	"tracery/net"
)

// of is a net of the ends u, v, u, v ...
func of(n int, ends ...int) api.Net {
	g := api.Net{N: n}
	for i := 0; i+1 < len(ends); i += 2 {
		g.Edges = append(g.Edges, [2]int{ends[i], ends[i+1]})
	}
	return g
}

// made is a graph of that net.
func made(t *testing.T, n int, ends ...int) *Graph {
	t.Helper()
	g, e := Of(of(n, ends...))
	if g == nil || e != api.OK {
		t.Fatalf("P4.1: Of: %v, %v", g, e)
	}
	return g
}

// tells fails unless the graph's net and ids are these.
func tells(t *testing.T, g *Graph, n api.Net, nodes, edges []int) {
	t.Helper()
	m, x, y := g.Net()
	if !net.Same(m, n) || !slices.Equal(x, nodes) || !slices.Equal(y, edges) {
		t.Errorf("P4.5: Net: %v, %v, %v, not %v, %v, %v", m, x, y, n, nodes, edges)
	}
}

// from1 are the numbers 1 to n.
func from1(n int) []int {
	l := make([]int, n)
	for i := range l {
		l[i] = i + 1
	}
	return l
}

// strange are numbers that are no id of a small graph.
func strange() []int {
	return []int{0, -1, -2, 99, 1 << 32, -1 << 32, 1<<32 + 1, math.MinInt, math.MinInt + 1, math.MaxInt, math.MaxInt - 1}
}

// full is a graph with as many nodes and edges as may be: a ring, gone round three times.
func full(t *testing.T) *Graph {
	t.Helper()
	n := api.Net{N: api.MaxNodes, Edges: make([][2]int, api.MaxEdges)}
	for e := range n.Edges {
		n.Edges[e] = [2]int{e % n.N, (e + 1) % n.N}
	}
	g, e := Of(n)
	if g == nil || e != api.OK {
		t.Fatalf("P4.1: Of the greatest net: %v", e)
	}
	return g
}

// TestExamples: the chapter's rows, in their order.
func TestExamples(t *testing.T) {
	g := New()
	a, e1 := g.AddNode()
	b, e2 := g.AddNode()
	c, e3 := g.AddEdge(1, 2)
	d, e4 := g.AddEdge(2, 2)
	f, e5 := g.AddEdge(1, 3)
	if a != 1 || b != 2 || c != 1 || d != 2 || f != 0 || e1 != api.OK || e2 != api.OK || e3 != api.OK || e4 != api.OK || e5 != api.ErrBounds {
		t.Errorf("P4.2: %d %d %d %d %d, %v %v %v %v %v", a, b, c, d, f, e1, e2, e3, e4, e5)
	}
	if m := g.Mark(); m != 1 {
		t.Errorf("P4.6: Mark: %d", m)
	}
	if v, f, e := g.Split(1); v != 3 || f != 3 || e != api.OK {
		t.Errorf("P4.3: Split(1): %d, %d, %v", v, f, e)
	}
	if u, v, e := g.Ends(1); u != 1 || v != 3 || e != api.OK {
		t.Errorf("P4.4: Ends(1): %d, %d, %v", u, v, e)
	}
	if u, v, e := g.Ends(3); u != 3 || v != 2 || e != api.OK {
		t.Errorf("P4.4: Ends(3): %d, %d, %v", u, v, e)
	}
	if f, e := g.Unsplit(3); f != 1 || e != api.OK {
		t.Errorf("P4.3: Unsplit(3): %d, %v", f, e)
	}
	if n, e := g.DropNode(2); n != 2 || e != api.OK {
		t.Errorf("P4.2: DropNode(2): %d, %v", n, e)
	}
	tells(t, g, of(1), []int{1}, nil)
	if e := g.Back(1); e != api.OK {
		t.Errorf("P4.6: Back(1): %v", e)
	}
	tells(t, g, of(2, 0, 1, 1, 1), []int{1, 2}, []int{1, 2})
}

func TestNew(t *testing.T) {
	g := New()
	if g == nil {
		t.Fatal("P4.1: New: nil")
	}
	tells(t, g, api.Net{}, nil, nil)
	h := New()
	h.AddNode()
	tells(t, g, api.Net{}, nil, nil)
	if v, e := g.AddNode(); v != 1 || e != api.OK {
		t.Errorf("P4.1: the first node of a new graph: %d, %v", v, e)
	}
}

func TestOf(t *testing.T) {
	for _, n := range []api.Net{{}, of(1), of(1, 0, 0), of(3, 0, 1, 1, 0, 2, 2, 1, 2), of(1024), of(4, 3, 2, 3, 2, 2, 3)} {
		g, e := Of(n)
		if g == nil || e != api.OK {
			t.Fatalf("P4.1: Of(%v): %v", n, e)
		}
		tells(t, g, n, from1(n.N), from1(len(n.Edges)))
		for i, ends := range n.Edges {
			if u, v, e := g.Ends(i + 1); u != ends[0]+1 || v != ends[1]+1 || e != api.OK {
				t.Errorf("P4.1: Ends(%d): %d, %d, %v", i+1, u, v, e)
			}
		}
		if n.N < 1 || n.N == api.MaxNodes {
			continue
		}
		v, _ := g.AddNode()
		f, _ := g.AddEdge(1, v)
		if v != n.N+1 || f != len(n.Edges)+1 {
			t.Errorf("P4.1: the ids behind those of a net: %d, %d", v, f)
		}
	}
	full(t)
	for _, n := range []api.Net{{N: -1}, {N: 1025}, {N: math.MinInt}, {N: math.MaxInt}, of(0, 0, 0), of(2, 0, 2), of(2, 2, 0), of(2, -1, 0), of(2, 0, math.MaxInt), {N: 1, Edges: make([][2]int, 3073)}} {
		if g, e := Of(n); g != nil || e != api.ErrArg {
			t.Errorf("P4.1: Of N %d with %d edges: %v, %v", n.N, len(n.Edges), g, e)
		}
	}
}

func TestAddNode(t *testing.T) {
	g := New()
	for i := range api.MaxNodes {
		if v, e := g.AddNode(); v != i+1 || e != api.OK {
			t.Fatalf("P4.2: AddNode: %d, %v", v, e)
		}
	}
	for range 2 {
		if v, e := g.AddNode(); v != 0 || e != api.ErrLimit {
			t.Errorf("P4.2: AddNode beyond the limit: %d, %v", v, e)
		}
	}
	// It is the living ones that count; and what was refused took no id.
	g.DropNode(500)
	if v, e := g.AddNode(); v != 1025 || e != api.OK {
		t.Errorf("P4.2: AddNode behind DropNode: %d, %v", v, e)
	}
	if v, e := g.AddNode(); v != 0 || e != api.ErrLimit {
		t.Errorf("P4.2: AddNode beyond the limit: %d, %v", v, e)
	}
}

func TestAddEdge(t *testing.T) {
	g := made(t, 3)
	g.DropNode(2)
	for _, v := range append(strange(), 2, 4) {
		for _, pair := range [][2]int{{1, v}, {v, 1}, {v, v}} {
			if f, e := g.AddEdge(pair[0], pair[1]); f != 0 || e != api.ErrBounds {
				t.Errorf("P4.2: AddEdge(%v): %d, %v", pair, f, e)
			}
		}
	}
	for i := range api.MaxEdges {
		if f, e := g.AddEdge(3, 1); f != i+1 || e != api.OK {
			t.Fatalf("P4.2: AddEdge: %d, %v", f, e)
		}
	}
	if u, v, _ := g.Ends(77); u != 3 || v != 1 {
		t.Errorf("P4.2: the first end of AddEdge(3, 1): %d, %d", u, v)
	}
	if f, e := g.AddEdge(1, 1); f != 0 || e != api.ErrLimit {
		t.Errorf("P4.2: AddEdge beyond the limit: %d, %v", f, e)
	}
	for _, pair := range [][2]int{{1, 2}, {2, 1}, {0, 0}, {1, 4}} {
		if f, e := g.AddEdge(pair[0], pair[1]); f != 0 || e != api.ErrBounds {
			t.Errorf("P4.2: AddEdge(%v) beyond the limit, too: %d, %v", pair, f, e)
		}
	}
	g.DropEdge(3072)
	if f, e := g.AddEdge(1, 1); f != 3073 || e != api.OK {
		t.Errorf("P4.2: AddEdge behind DropEdge: %d, %v", f, e)
	}
}

func TestDrop(t *testing.T) {
	g := made(t, 4, 0, 1, 1, 2, 2, 2, 2, 1, 3, 0, 2, 2)
	if n, e := g.DropNode(3); n != 4 || e != api.OK {
		t.Errorf("P4.2: DropNode(3): %d, %v", n, e)
	}
	tells(t, g, of(3, 0, 1, 2, 0), []int{1, 2, 4}, []int{1, 5})
	if e := g.DropEdge(1); e != api.OK {
		t.Errorf("P4.2: DropEdge(1): %v", e)
	}
	tells(t, g, of(3, 2, 0), []int{1, 2, 4}, []int{5})
	if n, e := g.DropNode(2); n != 0 || e != api.OK {
		t.Errorf("P4.2: DropNode(2): %d, %v", n, e)
	}
	for _, v := range append(strange(), 2, 3, 5) {
		if n, e := g.DropNode(v); n != 0 || e != api.ErrBounds {
			t.Errorf("P4.2: DropNode(%d): %d, %v", v, n, e)
		}
	}
	for _, f := range append(strange(), 1, 2, 3, 4, 6, 7) {
		if e := g.DropEdge(f); e != api.ErrBounds {
			t.Errorf("P4.2: DropEdge(%d): %v", f, e)
		}
	}
	tells(t, g, of(2, 1, 0), []int{1, 4}, []int{5})
	// No id is given again.
	v, _ := g.AddNode()
	f, _ := g.AddEdge(v, 4)
	if v != 5 || f != 7 {
		t.Errorf("P4.2: ids behind what was dropped: %d, %d", v, f)
	}
	h := full(t)
	if n, e := h.DropNode(1024); n != 6 || e != api.OK {
		t.Errorf("P4.2: DropNode of the greatest graph: %d, %v", n, e)
	}
}

func TestMoveAndEnds(t *testing.T) {
	g := made(t, 4, 0, 1, 1, 2)
	g.DropNode(4)
	g.AddEdge(3, 3)
	g.DropEdge(3)
	for _, c := range []struct{ e, end, v, first, second int }{
		{1, 0, 3, 3, 2}, {1, 1, 3, 3, 3}, {1, 1, 3, 3, 3}, {1, 0, 1, 1, 3}, {2, 1, 1, 2, 1},
	} {
		if e := g.Move(c.e, c.end, c.v); e != api.OK {
			t.Errorf("P4.4: Move(%d, %d, %d): %v", c.e, c.end, c.v, e)
		}
		if u, v, e := g.Ends(c.e); u != c.first || v != c.second || e != api.OK {
			t.Errorf("P4.4: Ends(%d): %d, %d, %v", c.e, u, v, e)
		}
	}
	for _, x := range append(strange(), 3, 4) {
		if e := g.Move(x, 0, 1); e != api.ErrBounds {
			t.Errorf("P4.4: Move(%d, 0, 1): %v", x, e)
		}
		if u, v, e := g.Ends(x); u != 0 || v != 0 || e != api.ErrBounds {
			t.Errorf("P4.4: Ends(%d): %d, %d, %v", x, u, v, e)
		}
	}
	for _, x := range append(strange(), 4, 5) {
		if e := g.Move(1, 1, x); e != api.ErrBounds {
			t.Errorf("P4.4: Move(1, 1, %d): %v", x, e)
		}
	}
	for _, x := range append(strange()[1:], 2, 3) {
		if e := g.Move(1, x, 2); e != api.ErrBounds {
			t.Errorf("P4.4: Move(1, %d, 2): %v", x, e)
		}
	}
	tells(t, g, of(3, 0, 2, 1, 0), []int{1, 2, 3}, []int{1, 2})
}

func TestEdges(t *testing.T) {
	g := made(t, 4, 0, 1, 1, 1, 2, 1, 0, 2, 1, 0, 1, 1)
	g.DropEdge(3)
	g.Move(4, 0, 2)
	all := g.Edges(2)
	want := []int{1, 2, 4, 5, 6}
	if l := slices.Collect(all); !slices.Equal(l, want) {
		t.Errorf("P4.5: Edges(2): %v", l)
	}
	// As they were at the call, whatever comes behind it, also while it is gone over; again and again.
	for e := range all {
		g.DropEdge(e)
		g.AddEdge(2, 2)
	}
	if l := slices.Collect(all); !slices.Equal(l, want) {
		t.Errorf("P4.5: Edges(2), the edges gone: %v", l)
	}
	g.DropNode(2)
	seen := 0
	for range all {
		if seen++; seen == 2 {
			break
		}
	}
	if seen != 2 {
		t.Errorf("P0.8: left early: %d", seen)
	}
	var pairs []int
	for a := range all {
		for b := range all {
			pairs = append(pairs, 10*a+b)
			if b >= a {
				break
			}
		}
	}
	if !slices.Equal(pairs, []int{11, 21, 22, 41, 42, 44, 51, 52, 54, 55, 61, 62, 64, 65, 66}) {
		t.Errorf("P0.8: nested: %v", pairs)
	}
	for _, v := range append(strange(), 2, 4) {
		it := g.Edges(v)
		if it == nil {
			t.Fatalf("P0.8: Edges(%d): nil", v)
		}
		if l := slices.Collect(it); len(l) > 0 {
			t.Errorf("P4.5: Edges(%d): %v", v, l)
		}
	}
}

func TestNoGraph(t *testing.T) {
	for name, g := range map[string]*Graph{"nil": nil, "zero": {}, "new": new(Graph)} {
		for _, x := range append(strange(), 1, 2) {
			v, e1 := g.AddNode()
			f, e2 := g.AddEdge(x, x)
			n, e3 := g.DropNode(x)
			e4 := g.DropEdge(x)
			a, b, e5 := g.Split(x)
			k, e6 := g.Unsplit(x)
			e7 := g.Move(x, x, x)
			c, d, e8 := g.Ends(x)
			e9 := g.Back(x)
			for _, e := range []api.Errno{e1, e2, e3, e4, e5, e6, e7, e8, e9} {
				if e != api.ErrArg {
					t.Errorf("P4.7: %s: %v", name, e)
				}
			}
			if v != 0 || f != 0 || n != 0 || a != 0 || b != 0 || k != 0 || c != 0 || d != 0 || g.Mark() != 0 {
				t.Errorf("P4.7: %s: %d %d %d, %d %d, %d, %d %d", name, v, f, n, a, b, k, c, d)
			}
			it := g.Edges(x)
			if it == nil || len(slices.Collect(it)) > 0 {
				t.Errorf("P4.7: %s: Edges(%d)", name, x)
			}
			if g.Copy() != nil {
				t.Errorf("P4.7: %s: Copy", name)
			}
			tells(t, g, api.Net{}, nil, nil)
		}
	}
}

// TestNewMemory: whoever writes into what was answered, or into what was handed in, changes nothing else.
func TestNewMemory(t *testing.T) {
	edges := [][2]int{{0, 1}, {1, 2}, {2, 2}, {9, 9}}
	g, _ := Of(api.Net{N: 3, Edges: edges[:3]})
	if !slices.Equal(edges, [][2]int{{0, 1}, {1, 2}, {2, 2}, {9, 9}}) {
		t.Errorf("P0.3: handed in, and changed: %v", edges)
	}
	for i := range edges {
		edges[i] = [2]int{-7, -7}
	}
	n, nodes, ids := g.Net()
	m, x, y := g.Net()
	if !net.Same(n, m) || !slices.Equal(nodes, x) || !slices.Equal(ids, y) {
		t.Errorf("P0.5: %v, %v, %v, then %v, %v, %v", n, nodes, ids, m, x, y)
	}
	all := g.Edges(3)
	for i := range n.Edges[:cap(n.Edges)] {
		n.Edges[:cap(n.Edges)][i] = [2]int{-7, -7}
	}
	if !slices.Equal(nodes, x) || !slices.Equal(ids, y) {
		t.Errorf("P4.7: lists of one answer: %v, %v", nodes, ids)
	}
	for _, l := range [][]int{nodes, ids} {
		for i := range l[:cap(l)] {
			l[:cap(l)][i] = -7
		}
	}
	if want := of(3, 0, 1, 1, 2, 2, 2); !net.Same(m, want) || !slices.Equal(x, from1(3)) || !slices.Equal(y, from1(3)) {
		t.Errorf("P4.7: another answer: %v, %v, %v", m, x, y)
	}
	tells(t, g, of(3, 0, 1, 1, 2, 2, 2), from1(3), from1(3))
	if l := slices.Collect(all); !slices.Equal(l, []int{2, 3}) {
		t.Errorf("P4.7: an iterator: %v", l)
	}
	// What is told stays as it was told when the graph changes.
	g.AddNode()
	g.DropEdge(1)
	g.Move(2, 0, 1)
	if want := of(3, 0, 1, 1, 2, 2, 2); !net.Same(m, want) || !slices.Equal(x, from1(3)) || !slices.Equal(y, from1(3)) {
		t.Errorf("P4.7: an answer, the graph changed: %v, %v, %v", m, x, y)
	}
}
