package graph

import (
	"math/rand"
	"testing"

	"tracery/api"
	"tracery/net"
)

func TestSplit(t *testing.T) {
	g := made(t, 3, 2, 0, 1, 1)
	g.DropNode(2)
	for _, x := range append(strange(), 2, 3) {
		if v, f, e := g.Split(x); v != 0 || f != 0 || e != api.ErrBounds {
			t.Errorf("P4.3: Split(%d): %d, %d, %v", x, v, f, e)
		}
	}
	if v, f, e := g.Split(1); v != 4 || f != 3 || e != api.OK {
		t.Errorf("P4.3: Split(1): %d, %d, %v", v, f, e)
	}
	tells(t, g, of(3, 1, 2, 2, 0), []int{1, 3, 4}, []int{1, 3})
	if v, f, e := g.Split(3); v != 5 || f != 4 || e != api.OK {
		t.Errorf("P4.3: Split(3): %d, %d, %v", v, f, e)
	}
	tells(t, g, of(4, 1, 2, 2, 3, 3, 0), []int{1, 3, 4, 5}, []int{1, 3, 4})
	loop := made(t, 1, 0, 0)
	if v, f, e := loop.Split(1); v != 2 || f != 2 || e != api.OK {
		t.Errorf("P4.3: Split of a loop: %d, %d, %v", v, f, e)
	}
	tells(t, loop, of(2, 0, 1, 1, 0), from1(2), from1(2))
}

func TestSplitLimits(t *testing.T) {
	for _, c := range []struct {
		nodes, edges int
		want         api.Errno
	}{
		{1023, 3071, api.OK}, {1024, 3071, api.ErrLimit}, {1023, 3072, api.ErrLimit}, {1024, 3072, api.ErrLimit}, {1024, 1, api.ErrLimit}, {1, 3072, api.ErrLimit},
	} {
		n := api.Net{N: c.nodes, Edges: make([][2]int, c.edges)}
		g, _ := Of(n)
		if v, f, e := g.Split(c.edges + 1); v != 0 || f != 0 || e != api.ErrBounds {
			t.Errorf("P4.3: Split of no edge, N %d, %d edges: %d, %d, %v", c.nodes, c.edges, v, f, e)
		}
		v, f, e := g.Split(1)
		if e != c.want {
			t.Errorf("P4.3: Split, N %d, %d edges: %d, %d, %v", c.nodes, c.edges, v, f, e)
		}
		if e == api.OK {
			continue
		}
		if v != 0 || f != 0 {
			t.Errorf("P0.2: Split, N %d, %d edges: %d, %d", c.nodes, c.edges, v, f)
		}
		tells(t, g, n, from1(c.nodes), from1(c.edges))
		// Room is made: the ids are the next ones, nothing was given to what was refused.
		if c.nodes > 1 {
			g.DropNode(c.nodes)
		}
		g.DropEdge(c.edges)
		g.AddEdge(1, 1)
		g.DropEdge(c.edges + 1)
		a, ea := g.AddNode()
		b, eb := g.AddEdge(1, 1)
		if a != c.nodes+1 || b != c.edges+2 || ea != api.OK || eb != api.OK {
			t.Errorf("P0.2: ids behind a refused Split: %d, %d", a, b)
		}
	}
}

// TestUnsplit: the node 2 (by number 1) is between two edges, whichever way they go.
func TestUnsplit(t *testing.T) {
	for _, c := range []struct{ net, want api.Net }{
		{of(3, 0, 1, 1, 2), of(2, 0, 1)},
		{of(3, 1, 0, 1, 2), of(2, 1, 0)},
		{of(3, 0, 1, 2, 1), of(2, 0, 1)},
		{of(3, 1, 0, 2, 1), of(2, 1, 0)},
		{of(3, 1, 2, 0, 1), of(2, 0, 1)},
		{of(3, 2, 1, 0, 1), of(2, 1, 0)},
		{of(3, 0, 1, 0, 1), of(2, 0, 0)},
		{of(3, 0, 1, 1, 0), of(2, 0, 0)},
		{of(3, 2, 1, 1, 2, 2, 2), of(2, 1, 1, 1, 1)},
	} {
		g, _ := Of(c.net)
		f, e := g.Unsplit(2)
		ids := []int{1}
		if len(c.net.Edges) > 2 {
			ids = []int{1, 3}
		}
		if f != 1 || e != api.OK {
			t.Errorf("P4.3: Unsplit(2) of %v: %d, %v", c.net, f, e)
		}
		tells(t, g, c.want, []int{1, 3}, ids)
		if v, _ := g.AddNode(); v != 4 {
			t.Errorf("P4.3: the id behind Unsplit: %d", v)
		}
	}
	// The lesser id is what counts, not the order at the node.
	g := made(t, 4, 3, 3, 1, 2, 3, 0, 0, 1)
	if f, e := g.Unsplit(2); f != 2 || e != api.OK {
		t.Errorf("P4.3: Unsplit(2): %d, %v", f, e)
	}
	tells(t, g, of(3, 2, 2, 0, 1, 2, 0), []int{1, 3, 4}, []int{1, 2, 3})
}

func TestUnsplitRefused(t *testing.T) {
	for _, n := range []api.Net{
		of(3), of(3, 0, 1), of(3, 1, 1), of(3, 1, 1, 0, 1), of(3, 0, 1, 1, 1), of(3, 1, 1, 1, 1),
		of(3, 0, 1, 1, 2, 2, 1), of(3, 0, 1, 1, 2, 1, 1), of(3, 0, 1, 0, 1, 0, 1), of(3, 0, 2, 2, 0, 1, 1),
	} {
		g, _ := Of(n)
		if f, e := g.Unsplit(2); f != 0 || e != api.ErrDegree {
			t.Errorf("P4.3: Unsplit(2) of %v: %d, %v", n, f, e)
		}
		tells(t, g, n, from1(n.N), from1(len(n.Edges)))
	}
	g := made(t, 4, 0, 1, 1, 2)
	g.DropNode(4)
	for _, x := range append(strange(), 4, 5) {
		if f, e := g.Unsplit(x); f != 0 || e != api.ErrBounds {
			t.Errorf("P4.3: Unsplit(%d): %d, %v", x, f, e)
		}
	}
}

// TestUnsplitBehindSplit: 'What follows' of the chapter.
func TestUnsplitBehindSplit(t *testing.T) {
	r := rand.New(rand.NewSource(4))
	for range 200 {
		n := api.Net{N: 1 + r.Intn(5)}
		for range 1 + r.Intn(8) {
			n.Edges = append(n.Edges, [2]int{r.Intn(n.N), r.Intn(n.N)})
		}
		g, _ := Of(n)
		e := 1 + r.Intn(len(n.Edges))
		v, _, _ := g.Split(e)
		if m, _, _ := g.Net(); net.Same(m, n) {
			t.Fatalf("P4.3: Split(%d) of %v: nothing done", e, n)
		}
		if f, err := g.Unsplit(v); f != e || err != api.OK {
			t.Fatalf("P4.3: Unsplit behind Split(%d) of %v: %d, %v", e, n, f, err)
		}
		tells(t, g, n, from1(n.N), from1(len(n.Edges)))
	}
}
