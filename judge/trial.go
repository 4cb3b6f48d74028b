package judge

import (
	"tracery/api"
	"tracery/geom"
)

// The flaws' codes.
const (
	miscounted = iota + 1
	noPoint
	noLine
	samePoint
	loose
	tangled
	onLine
	meeting
)

// A trial knows the net and the plot, and gathers the flaws. Each method that
// gathers takes the nodes and edges in their order, so that nothing is sorted.
type trial struct {
	g     api.Net
	p     api.Plot
	flaws []api.Flaw
}

func (t *trial) tell(code, a, b int) {
	t.flaws = append(t.flaws, api.Flaw{Code: code, A: a, B: b})
}

// judge gathers all flaws. Those of lines among nodes and lines are asked only
// of lines that are simple and join their ends.
func (t *trial) judge() {
	if !t.readable() {
		return
	}
	t.samePoints()
	before := len(t.flaws)
	t.looseLines()
	t.tangledLines()
	if len(t.flaws) > before {
		return
	}
	strips := t.strips()
	t.nodesOnLines(strips)
	t.meetingLines(strips)
}

// readable gathers the flaws without which there is a line of points that may be for each edge, and a point for each node.
func (t *trial) readable() bool {
	if len(t.p.At) != t.g.N || len(t.p.Lines) != len(t.g.Edges) {
		t.tell(miscounted, 0, 0)
		return false
	}
	for v, at := range t.p.At {
		if !geom.May(at) {
			t.tell(noPoint, v, 0)
		}
	}
	for e, line := range t.p.Lines {
		if len(line) < 2 || !geom.May(line...) {
			t.tell(noLine, e, 0)
		}
	}
	return len(t.flaws) == 0
}

func (t *trial) samePoints() {
	for u, at := range t.p.At {
		for v := u + 1; v < len(t.p.At); v++ {
			if t.p.At[v] == at {
				t.tell(samePoint, u, v)
			}
		}
	}
}

func (t *trial) looseLines() {
	for e, line := range t.p.Lines {
		ends := t.g.Edges[e]
		if line[0] != t.p.At[ends[0]] || line[len(line)-1] != t.p.At[ends[1]] {
			t.tell(loose, e, 0)
		}
	}
}

func (t *trial) tangledLines() {
	for e, line := range t.p.Lines {
		if simple, _ := geom.Simple(line...); !simple {
			t.tell(tangled, e, 0)
		}
	}
}

// strips of the lines.
func (t *trial) strips() []strip {
	list := make([]strip, len(t.p.Lines))
	for e, line := range t.p.Lines {
		list[e] = stripOf(line)
	}
	return list
}

func (t *trial) nodesOnLines(strips []strip) {
	for e, ends := range t.g.Edges {
		for v, at := range t.p.At {
			if v != ends[0] && v != ends[1] && strips[e].passes(at) {
				t.tell(onLine, e, v)
			}
		}
	}
}

// meetingLines asks the boxes ahead of the joints, as most pairs need none.
func (t *trial) meetingLines(strips []strip) {
	for e, s := range strips {
		for f := e + 1; f < len(strips); f++ {
			if s.near(strips[f].box) && s.meets(strips[f], t.joints(e, f)) {
				t.tell(meeting, e, f)
			}
		}
	}
}

// joints: the points of the nodes that are ends of both edges.
func (t *trial) joints(e, f int) []api.Point {
	var list []api.Point
	other := t.g.Edges[f]
	for _, v := range t.g.Edges[e] {
		if v == other[0] || v == other[1] {
			list = append(list, t.p.At[v])
		}
	}
	return list
}
