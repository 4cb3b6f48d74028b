package graph

import "tracery/api"

func (g *Graph) nodesFull() bool { return len(g.nodes) >= api.MaxNodes }

func (g *Graph) edgesFull() bool { return len(g.edges) >= api.MaxEdges }

// AddNode: a new node's id.
func (g *Graph) AddNode() (int, api.Errno) {
	if g.none() {
		return 0, api.ErrArg
	}
	if g.nodesFull() {
		return 0, api.ErrLimit
	}
	return g.layNode(), api.OK
}

// AddEdge: the id of a new edge from u to v.
func (g *Graph) AddEdge(u, v int) (int, api.Errno) {
	if g.none() {
		return 0, api.ErrArg
	}
	if !g.hasNode(u) || !g.hasNode(v) {
		return 0, api.ErrBounds
	}
	if g.edgesFull() {
		return 0, api.ErrLimit
	}
	return g.layEdge([2]int{u, v}), api.OK
}

// DropNode: v and all edges at it go; how many edges those were.
func (g *Graph) DropNode(v int) (int, api.Errno) {
	if g.none() {
		return 0, api.ErrArg
	}
	place, living := g.nodePlace(v)
	if !living {
		return 0, api.ErrBounds
	}
	places := g.placesAt(v)
	// From the last one on: the places of those ahead stay.
	for k := len(places) - 1; k >= 0; k-- {
		g.takeEdge(places[k])
	}
	g.takeNode(place)
	return len(places), api.OK
}

// DropEdge: e goes.
func (g *Graph) DropEdge(e int) api.Errno {
	if g.none() {
		return api.ErrArg
	}
	place, living := g.edgePlace(e)
	if !living {
		return api.ErrBounds
	}
	g.takeEdge(place)
	return api.OK
}

// Split: a new node on e, and a new edge from it to e's second end; the ids of both.
func (g *Graph) Split(e int) (int, int, api.Errno) {
	if g.none() {
		return 0, 0, api.ErrArg
	}
	place, living := g.edgePlace(e)
	if !living {
		return 0, 0, api.ErrBounds
	}
	if g.nodesFull() || g.edgesFull() {
		return 0, 0, api.ErrLimit
	}
	second := g.edges[place].ends[1]
	v := g.layNode()
	g.setEnd(place, 1, v)
	return v, g.layEdge([2]int{v, second}), api.OK
}

// Unsplit: the two edges that v is between become one, that with the lesser id, which it answers.
func (g *Graph) Unsplit(v int) (int, api.Errno) {
	if g.none() {
		return 0, api.ErrArg
	}
	place, living := g.nodePlace(v)
	if !living {
		return 0, api.ErrBounds
	}
	places := g.placesAt(v)
	if !g.isBetween(places) {
		return 0, api.ErrDegree
	}
	stays, goes := g.edges[places[0]], g.edges[places[1]]
	g.setEnd(places[0], stays.side(v), goes.far(v))
	g.takeEdge(places[1])
	g.takeNode(place)
	return stays.id, api.OK
}

// isBetween: whether a node with the edges at these places has the degree 2, and no loop.
func (g *Graph) isBetween(places []int) bool {
	return len(places) == 2 && !g.edges[places[0]].isLoop() && !g.edges[places[1]].isLoop()
}

// Move: e's end 0 or 1 becomes v.
func (g *Graph) Move(e, end, v int) api.Errno {
	if g.none() {
		return api.ErrArg
	}
	place, living := g.edgePlace(e)
	if !living || !g.hasNode(v) || end < 0 || end > 1 {
		return api.ErrBounds
	}
	g.setEnd(place, end, v)
	return api.OK
}
