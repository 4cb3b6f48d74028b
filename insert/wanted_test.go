package insert

import (
	"slices"
	"testing"

	"tracery/api"
	"tracery/dual"
	"tracery/net"
	"tracery/rot"
)

// plan is a net and its rotation, changed step by step as the chapter's words say, each list from its least half-edge on.
type plan struct {
	g api.Net
	x api.Rot
}

func planOf(g api.Net, x api.Rot) *plan {
	p := &plan{api.Net{N: g.N, Edges: slices.Clone(g.Edges)}, copied(x)}
	p.turn()
	return p
}

func (p *plan) turn() {
	for v, list := range p.x {
		if len(list) > 0 {
			from := slices.Index(list, slices.Min(list))
			p.x[v] = slices.Concat(list[from:], list[:from])
		}
	}
}

// split puts a node more on the edge e.
func (p *plan) split(e int) {
	node, edge, end := p.g.N, len(p.g.Edges), p.g.Edges[e][1]
	p.g.N++
	p.g.Edges[e][1] = node
	p.g.Edges = append(p.g.Edges, [2]int{node, end})
	p.x[end][slices.Index(p.x[end], 2*e+1)] = 2*edge + 1
	p.x = append(p.x, nums(2*e+1, 2*edge))
	p.turn()
}

// next is the half-edge behind h along its face.
func (p *plan) next(h int) int {
	list := p.x[p.g.Edges[h/2][1-h%2]]
	return list[(slices.Index(list, h^1)+1)%len(list)]
}

// face is the half-edges of the face on which h is.
func (p *plan) face(h int) []int {
	all := nums(h)
	for k := p.next(h); k != h; k = p.next(k) {
		all = append(all, k)
	}
	return all
}

// behind is the first half-edge of a node's list whose corner is in a face.
func (p *plan) behind(v int, face []int) int {
	list := p.x[v]
	for i, h := range list {
		if slices.Contains(face, list[(i+1)%len(list)]) {
			return h
		}
	}
	return -1
}

// lay lays an edge from u to v in the face on which h is.
func (p *plan) lay(u, v, h int) {
	face := p.face(h)
	a, b, more := p.behind(u, face), p.behind(v, face), 2*len(p.g.Edges)
	p.g.Edges = append(p.g.Edges, [2]int{u, v})
	p.x[u] = slices.Insert(p.x[u], slices.Index(p.x[u], a)+1, more)
	p.x[v] = slices.Insert(p.x[v], slices.Index(p.x[v], b)+1, more+1)
	p.turn()
}

// through are the faces through which a route goes: only one row of them may be, but for an empty route, whose face is the least of all.
func through(t *testing.T, face []int, x api.Rot, u, v int, route []int) []int {
	t.Helper()
	var rows [][]int
	for f := range at(face, x[u]) {
		row, in := nums(f), set{f: true}
		for _, e := range route {
			in = in.over(face, e)
			for f := range in {
				row = append(row, f)
			}
		}
		if in.meet(at(face, x[v])) && len(row) == len(route)+1 {
			rows = append(rows, row)
		}
	}
	slices.SortFunc(rows, slices.Compare[[]int])
	if len(rows) == 0 || len(rows) > 1 && len(route) > 0 {
		t.Fatalf("P19.1: the route %v from %d to %d goes through the faces %v", route, u, v, rows)
	}
	return rows[0]
}

// wanted is the net and the rotation that come, and the edges of the way.
func wanted(t *testing.T, g api.Net, x api.Rot, u, v int, route []int) (*plan, []int) {
	t.Helper()
	face := faceOf(g, x)
	faces := through(t, face, x, u, v, route)
	p := planOf(g, x)
	stops := nums(u)
	for _, e := range route {
		stops = append(stops, p.g.N)
		p.split(e)
	}
	stops = append(stops, v)
	var way []int
	for i, f := range faces {
		way = append(way, len(p.g.Edges))
		p.lay(stops[i], stops[i+1], slices.Index(face, f))
	}
	return p, way
}

// checkCross holds Cross against the words, and against what follows from them.
func checkCross(t *testing.T, g api.Net, x api.Rot, u, v int) {
	t.Helper()
	route, err := Route(g, x, u, v)
	if err != api.OK {
		t.Fatalf("P19.1: Route of %v, %v from %d to %d: %v", told(g), toldWay(x), u, v, err)
	}
	m, y, way, err := Cross(g, x, u, v)
	if g.N+len(route) > api.MaxNodes || len(g.Edges)+2*len(route)+1 > api.MaxEdges {
		if err != api.ErrLimit || m.N != 0 || len(m.Edges) != 0 || len(y) != 0 || len(way) != 0 {
			t.Fatalf("P19.2: Cross of %v from %d to %d over %d edges: %v", told(g), u, v, len(route), err)
		}
		return
	}
	p, want := wanted(t, g, x, u, v, route)
	if err != api.OK || !net.Same(m, p.g) || !sameLists(y, p.x) || !slices.Equal(way, want) {
		t.Fatalf("P19.2: Cross(%v, %v, %d, %d): %v, %v, %v, %v, not %v, %v, %v", told(g), toldWay(x), u, v, told(m), toldWay(y), way, err, told(p.g), toldWay(p.x), want)
	}
	if genus, err := rot.Genus(m, y); genus != 0 || err != api.OK {
		t.Fatalf("what follows: Cross(%v, %v, %d, %d): genus %d, %v", told(g), toldWay(x), u, v, genus, err)
	}
	if canon, _ := rot.Canon(m, y); !sameLists(y, canon) {
		t.Fatalf("P19.2: Cross(%v, %v, %d, %d): %v is not Canon", told(g), toldWay(x), u, v, toldWay(y))
	}
	checkTurns(t, g, route, m, y, way)
	checkBack(t, g, x, len(route), m, y, way)
}

// checkTurns: no edge is crossed twice, and round each new node an edge of the way and a half of what was crossed take turns.
func checkTurns(t *testing.T, g api.Net, route []int, m api.Net, y api.Rot, way []int) {
	t.Helper()
	if len(slices.Compact(slices.Sorted(slices.Values(route)))) != len(route) {
		t.Fatalf("W3: an edge is crossed twice: %v", route)
	}
	for i, e := range route {
		halves := map[int]int{e: 1, len(g.Edges) + i: 1, way[i]: 2, way[i+1]: 2}
		list := y[g.N+i]
		if len(list) != 4 {
			t.Fatalf("what follows: the node %d has the half-edges %v", g.N+i, list)
		}
		for k, h := range list {
			if a, b := halves[h/2], halves[list[(k+1)%4]/2]; a+b != 3 || a*b != 2 {
				t.Fatalf("what follows: round the node %d: %v, where the way is %v and the edge %d was split", g.N+i, list, way, e)
			}
		}
	}
}

// checkBack: with the edges of the way taken out, the last first, and the splits undone, all is as it was.
func checkBack(t *testing.T, g api.Net, x api.Rot, splits int, m api.Net, y api.Rot, way []int) {
	t.Helper()
	for _, e := range slices.Backward(way) {
		var err api.Errno
		if m, y, err = dual.Take(m, y, e); err != api.OK {
			t.Fatalf("what follows: the edge %d isn't taken: %v", e, err)
		}
	}
	for range splits {
		m, y = unsplit(m, y)
	}
	if same, err := rot.Same(g, x, y); !net.Same(m, g) || !same || err != api.OK {
		t.Fatalf("what follows: %v, %v has become %v, %v", told(g), toldWay(x), told(m), toldWay(y))
	}
}

// unsplit makes one edge of the two at the last node, the second of which is the last edge.
func unsplit(g api.Net, x api.Rot) (api.Net, api.Rot) {
	last := len(g.Edges) - 1
	e := x[g.N-1][0] / 2
	end := g.Edges[last][1]
	less := api.Net{N: g.N - 1, Edges: slices.Clone(g.Edges[:last])}
	less.Edges[e][1] = end
	lists := copied(x[:g.N-1])
	lists[end][slices.Index(lists[end], 2*last+1)] = 2*e + 1
	return less, lists
}
