package graph

import (
	"slices"

	"tracery/api"
)

// maxMarks is how many marks may be there at a time.
const maxMarks = 64

// An undo takes back one step, of a graph that is as it was just behind that
// step: so it may go by places. It is told which graph, and keeps plain
// values alone: a copy has the same ones, and undoes itself by them.
type undo func(*Graph)

// A mark is a number, and how many steps had been done when it was given.
type mark struct{ number, steps int }

// remember keeps how a step is taken back. Ahead of the first mark nobody can ask for it.
func (g *Graph) remember(u undo) {
	if len(g.marks) > 0 {
		g.done = append(g.done, u)
	}
}

// layNode: a new node, whose id is above all others and so the last one.
func (g *Graph) layNode() int {
	id := g.nextNode
	g.nodes = append(g.nodes, id)
	g.nextNode++
	g.remember(func(g *Graph) {
		g.nodes = g.nodes[:len(g.nodes)-1]
		g.nextNode--
	})
	return id
}

// layEdge: a new edge, the last one as well.
func (g *Graph) layEdge(ends [2]int) int {
	id := g.nextEdge
	g.edges = append(g.edges, edge{id, ends})
	g.nextEdge++
	g.remember(func(g *Graph) {
		g.edges = g.edges[:len(g.edges)-1]
		g.nextEdge--
	})
	return id
}

func (g *Graph) takeNode(place int) {
	id := g.nodes[place]
	g.nodes = slices.Delete(g.nodes, place, place+1)
	g.remember(func(g *Graph) { g.nodes = slices.Insert(g.nodes, place, id) })
}

func (g *Graph) takeEdge(place int) {
	gone := g.edges[place]
	g.edges = slices.Delete(g.edges, place, place+1)
	g.remember(func(g *Graph) { g.edges = slices.Insert(g.edges, place, gone) })
}

func (g *Graph) setEnd(place, end, v int) {
	was := g.edges[place].ends[end]
	g.edges[place].ends[end] = v
	g.remember(func(g *Graph) { g.edges[place].ends[end] = was })
}

// Mark: a number to which Back goes back, or 0 if there are as many as may be.
func (g *Graph) Mark() int {
	if g.none() || len(g.marks) >= maxMarks {
		return 0
	}
	g.lastMark++
	g.marks = append(g.marks, mark{g.lastMark, len(g.done)})
	return g.lastMark
}

// Back: all is as it was when the mark was given; marks behind it are gone.
func (g *Graph) Back(number int) api.Errno {
	if g.none() {
		return api.ErrArg
	}
	i := slices.IndexFunc(g.marks, func(m mark) bool { return m.number == number })
	if i < 0 {
		return api.ErrNone
	}
	steps := g.marks[i].steps
	for k := len(g.done) - 1; k >= steps; k-- {
		g.done[k](g)
	}
	g.done = slices.Delete(g.done, steps, len(g.done))
	g.marks = g.marks[:i+1]
	return api.OK
}

// Copy: a graph like this one in all, its marks and the way back to them too.
func (g *Graph) Copy() *Graph {
	if g.none() {
		return nil
	}
	other := *g
	other.nodes = slices.Clone(g.nodes)
	other.edges = slices.Clone(g.edges)
	other.marks = slices.Clone(g.marks)
	other.done = slices.Clone(g.done)
	return &other
}
