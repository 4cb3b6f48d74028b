package graph

import (
	"slices"
	"testing"

	"tracery/api"
	"tracery/net"
)

func TestMarks(t *testing.T) {
	g := New()
	for i := range 64 {
		if m := g.Mark(); m != i+1 {
			t.Fatalf("P4.6: Mark: %d, not %d", m, i+1)
		}
		g.AddNode()
	}
	for range 2 {
		if m := g.Mark(); m != 0 {
			t.Errorf("P4.6: a 65th mark: %d", m)
		}
	}
	for _, m := range append(strange(), 65) {
		if e := g.Back(m); e != api.ErrNone {
			t.Errorf("P4.6: Back(%d): %v", m, e)
		}
	}
	tells(t, g, of(64), from1(64), nil)
	// It itself stays, however often it is gone back to; those behind it are gone.
	for range 3 {
		if e := g.Back(63); e != api.OK {
			t.Errorf("P4.6: Back(63): %v", e)
		}
		tells(t, g, of(62), from1(62), nil)
		if v, e := g.AddNode(); v != 63 || e != api.OK {
			t.Errorf("P4.6: the id given next: %d, %v", v, e)
		}
	}
	if e := g.Back(64); e != api.ErrNone {
		t.Errorf("P4.6: Back to a mark that is gone: %v", e)
	}
	if m := g.Mark(); m != 65 {
		t.Errorf("P4.6: Mark, greater than those given ahead: %d", m)
	}
	if m := g.Mark(); m != 0 {
		t.Errorf("P4.6: a 65th mark: %d", m)
	}
	if e := g.Back(1); e != api.OK {
		t.Errorf("P4.6: Back(1): %v", e)
	}
	tells(t, g, of(0), nil, nil)
	for i := range 63 {
		if m := g.Mark(); m != 66+i {
			t.Errorf("P4.6: Mark: %d, not %d", m, 66+i)
		}
	}
	if m := g.Mark(); m != 0 {
		t.Errorf("P4.6: a 65th mark: %d", m)
	}
}

// TestBackUndoes: each kind of change alone, from one graph on, and then all of them.
func TestBackUndoes(t *testing.T) {
	was := of(5, 0, 1, 1, 2, 3, 3, 2, 3, 1, 0, 2, 4)
	changes := map[string]func(g *Graph) api.Errno{
		"AddNode":  func(g *Graph) api.Errno { _, e := g.AddNode(); return e },
		"AddEdge":  func(g *Graph) api.Errno { _, e := g.AddEdge(2, 4); return e },
		"DropNode": func(g *Graph) api.Errno { _, e := g.DropNode(2); return e },
		"of none":  func(g *Graph) api.Errno { g.AddNode(); _, e := g.DropNode(6); return e },
		"DropEdge": func(g *Graph) api.Errno { return g.DropEdge(3) },
		"Split":    func(g *Graph) api.Errno { _, _, e := g.Split(5); return e },
		"Unsplit":  func(g *Graph) api.Errno { _, e := g.Unsplit(1); return e },
		"Move":     func(g *Graph) api.Errno { return g.Move(6, 0, 5) },
	}
	names := []string{"AddNode", "AddEdge", "of none", "DropEdge", "Split", "Move", "Unsplit", "DropNode"}
	for i := range len(names) + 1 {
		g, _ := Of(was)
		mark := g.Mark()
		some := names
		if i < len(names) {
			some = names[i : i+1]
		}
		for _, name := range some {
			if e := changes[name](g); e != api.OK {
				t.Fatalf("P4.6: %s: %v", name, e)
			}
		}
		// A node that came and went is seen by the ids alone.
		if m, nodes, _ := g.Net(); net.Same(m, was) && slices.Equal(nodes, from1(5)) && some[0] != "of none" {
			t.Errorf("P4.6: %v: nothing done", some)
		}
		if e := g.Back(mark); e != api.OK {
			t.Errorf("P4.6: Back behind %v: %v", some, e)
		}
		tells(t, g, was, from1(5), from1(6))
		v, _ := g.AddNode()
		f, _ := g.AddEdge(v, 1)
		if v != 6 || f != 7 {
			t.Errorf("P4.6: the ids given next, back behind %v: %d, %d", some, v, f)
		}
	}
}

// TestBackOfMuch: to the limits and back, the marks in between too.
func TestBackOfMuch(t *testing.T) {
	g := full(t)
	was, _, _ := g.Net()
	first := g.Mark()
	for v := 1; v <= api.MaxNodes; v += 2 {
		g.DropNode(v)
	}
	second := g.Mark()
	tells(t, g, of(512), everySecond(), nil)
	for range 512 {
		g.AddNode()
	}
	for range api.MaxEdges {
		g.AddEdge(2, 1026)
	}
	if _, e := g.AddEdge(2, 2); e != api.ErrLimit {
		t.Errorf("P4.6: as many as may be: %v", e)
	}
	if e := g.Back(second); e != api.OK {
		t.Errorf("P4.6: Back(%d): %v", second, e)
	}
	tells(t, g, of(512), everySecond(), nil)
	if f, e := g.AddEdge(2, 4); f != 3073 || e != api.OK {
		t.Errorf("P4.6: the id given next: %d, %v", f, e)
	}
	if e := g.Back(first); e != api.OK {
		t.Errorf("P4.6: Back(%d): %v", first, e)
	}
	tells(t, g, was, from1(api.MaxNodes), from1(api.MaxEdges))
	if e := g.Back(second); e != api.ErrNone {
		t.Errorf("P4.6: Back to a mark that is gone: %v", e)
	}
}

func everySecond() []int {
	var l []int
	for v := 2; v <= api.MaxNodes; v += 2 {
		l = append(l, v)
	}
	return l
}

// TestRefusedKeepsTheWayBack: what is refused behind a mark leaves nothing to undo.
func TestRefusedKeepsTheWayBack(t *testing.T) {
	g := full(t)
	was, _, _ := g.Net()
	mark := g.Mark()
	g.DropEdge(7)
	g.AddNode()
	g.AddEdge(0, 1)
	g.DropNode(1025)
	g.DropEdge(7)
	g.Split(1)
	g.Unsplit(1)
	g.Move(1, 2, 1)
	g.Back(99)
	if e := g.Back(mark); e != api.OK {
		t.Errorf("P4.6: Back: %v", e)
	}
	tells(t, g, was, from1(api.MaxNodes), from1(api.MaxEdges))
}

// TestNothingKeptAheadOfMarks: without a mark there is no way back, and nothing is kept for one; nor of what was gone back from.
func TestNothingKeptAheadOfMarks(t *testing.T) {
	g := New()
	for range 100 {
		g.AddNode()
		g.AddEdge(1, 1)
	}
	if len(g.done) != 0 {
		t.Errorf("P4.6: %d undos without a mark", len(g.done))
	}
	mark := g.Mark()
	for range 100 {
		g.AddEdge(1, 2)
	}
	g.Back(mark)
	if len(g.done) != 0 {
		t.Errorf("P4.6: %d undos of what was gone back from", len(g.done))
	}
}

// TestCopy: a copy has all, marks too, and from then on each goes its own way.
func TestCopy(t *testing.T) {
	g := made(t, 3, 0, 1, 1, 2)
	g.Mark()
	g.Split(1)
	g.Mark()
	g.DropNode(2)
	h := g.Copy()
	if h == nil || h == g {
		t.Fatal("P4.6: Copy: no other graph")
	}
	n, nodes, edges := g.Net()
	tells(t, h, n, nodes, edges)
	if a, b := g.Mark(), h.Mark(); a != 3 || b != 3 {
		t.Errorf("P4.6: marks behind Copy: %d, %d", a, b)
	}
	// Both go back by the same undos: none of them may reach the other graph.
	if e := h.Back(1); e != api.OK {
		t.Errorf("P4.6: the copy's Back(1): %v", e)
	}
	tells(t, h, of(3, 0, 1, 1, 2), from1(3), from1(2))
	tells(t, g, n, nodes, edges)
	h.DropNode(1)
	h.AddNode()
	h.Move(2, 0, 4)
	if e := g.Back(2); e != api.OK {
		t.Errorf("P4.6: Back(2): %v", e)
	}
	tells(t, g, of(4, 0, 3, 1, 2, 3, 1), from1(4), from1(3))
	tells(t, h, of(3, 2, 1), []int{2, 3, 4}, []int{2})
	if e := h.Back(2); e != api.ErrNone {
		t.Errorf("P4.6: Back to a mark that is gone: %v", e)
	}
	if e := g.Back(1); e != api.OK {
		t.Errorf("P4.6: Back(1): %v", e)
	}
	tells(t, g, of(3, 0, 1, 1, 2), from1(3), from1(2))
	if a, b := g.Mark(), h.Mark(); a != 4 || b != 4 {
		t.Errorf("P4.6: marks: %d, %d", a, b)
	}
}

// TestCopyOfMarks: as many marks as may be are as many in the copy.
func TestCopyOfMarks(t *testing.T) {
	g := New()
	for range 64 {
		g.Mark()
		g.AddNode()
	}
	h := g.Copy()
	if m := h.Mark(); m != 0 {
		t.Errorf("P4.6: a 65th mark of a copy: %d", m)
	}
	for m := 64; m >= 1; m-- {
		if e := h.Back(m); e != api.OK {
			t.Errorf("P4.6: the copy's Back(%d): %v", m, e)
		}
		tells(t, h, of(m-1), from1(m-1), nil)
	}
	tells(t, g, of(64), from1(64), nil)
	if m := g.Mark(); m != 0 {
		t.Errorf("P4.6: a 65th mark: %d", m)
	}
	empty := New().Copy()
	if v, e := empty.AddNode(); v != 1 || e != api.OK {
		t.Errorf("P4.6: a copy of a new graph: %d, %v", v, e)
	}
}
