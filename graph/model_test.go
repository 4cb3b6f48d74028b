package graph

import (
	"maps"
	"math/rand"
	"slices"
	"testing"

	"tracery/api"
	"tracery/net"
)

// A plain graph is the chapter's words without any care for their cost: a mark keeps all there is.
type plain struct {
	now   state
	marks []plainMark
	last  int
}

type state struct {
	nodes              map[int]int
	edges              map[int][2]int
	nextNode, nextEdge int
}

type plainMark struct {
	number int
	was    state
}

func (s state) clone() state {
	s.nodes, s.edges = maps.Clone(s.nodes), maps.Clone(s.edges)
	return s
}

func newPlain() *plain {
	return &plain{now: state{nodes: map[int]int{}, edges: map[int][2]int{}, nextNode: 1, nextEdge: 1}}
}

func (p *plain) clone() *plain {
	q := &plain{now: p.now.clone(), last: p.last}
	for _, m := range p.marks {
		q.marks = append(q.marks, plainMark{m.number, m.was.clone()})
	}
	return q
}

func (p *plain) lives(v int) bool { return p.now.nodes[v] > 0 }

func (p *plain) at(v int) []int {
	var l []int
	for e := 1; e < p.now.nextEdge; e++ {
		if ends, ok := p.now.edges[e]; ok && (ends[0] == v || ends[1] == v) {
			l = append(l, e)
		}
	}
	return l
}

func (p *plain) addNode() (int, api.Errno) {
	p.now.nodes[p.now.nextNode] = 1
	p.now.nextNode++
	return p.now.nextNode - 1, api.OK
}

func (p *plain) addEdge(u, v int) (int, api.Errno) {
	if !p.lives(u) || !p.lives(v) {
		return 0, api.ErrBounds
	}
	p.now.edges[p.now.nextEdge] = [2]int{u, v}
	p.now.nextEdge++
	return p.now.nextEdge - 1, api.OK
}

func (p *plain) dropNode(v int) (int, api.Errno) {
	if !p.lives(v) {
		return 0, api.ErrBounds
	}
	gone := p.at(v)
	for _, e := range gone {
		delete(p.now.edges, e)
	}
	delete(p.now.nodes, v)
	return len(gone), api.OK
}

func (p *plain) dropEdge(e int) api.Errno {
	if _, ok := p.now.edges[e]; !ok {
		return api.ErrBounds
	}
	delete(p.now.edges, e)
	return api.OK
}

func (p *plain) split(e int) (int, int, api.Errno) {
	ends, ok := p.now.edges[e]
	if !ok {
		return 0, 0, api.ErrBounds
	}
	v, _ := p.addNode()
	f, _ := p.addEdge(v, ends[1])
	p.now.edges[e] = [2]int{ends[0], v}
	return v, f, api.OK
}

func (p *plain) unsplit(v int) (int, api.Errno) {
	if !p.lives(v) {
		return 0, api.ErrBounds
	}
	degree, loops := 0, 0
	for _, ends := range p.now.edges {
		for _, u := range ends {
			if u == v {
				degree++
			}
		}
		if ends == [2]int{v, v} {
			loops++
		}
	}
	if degree != 2 || loops > 0 {
		return 0, api.ErrDegree
	}
	l := p.at(v)
	a, b := p.now.edges[l[0]], p.now.edges[l[1]]
	other := b[0] + b[1] - v
	for i := range a {
		if a[i] == v {
			a[i] = other
		}
	}
	p.now.edges[l[0]] = a
	delete(p.now.edges, l[1])
	delete(p.now.nodes, v)
	return l[0], api.OK
}

func (p *plain) move(e, end, v int) api.Errno {
	ends, ok := p.now.edges[e]
	if !ok || !p.lives(v) || end != 0 && end != 1 {
		return api.ErrBounds
	}
	ends[end] = v
	p.now.edges[e] = ends
	return api.OK
}

func (p *plain) mark() int {
	if len(p.marks) == 64 {
		return 0
	}
	p.last++
	p.marks = append(p.marks, plainMark{p.last, p.now.clone()})
	return p.last
}

func (p *plain) back(mark int) api.Errno {
	for i, m := range p.marks {
		if m.number == mark {
			p.now, p.marks = m.was.clone(), p.marks[:i+1]
			return api.OK
		}
	}
	return api.ErrNone
}

func (p *plain) net() (api.Net, []int, []int) {
	nodes, edges := slices.Sorted(maps.Keys(p.now.nodes)), slices.Sorted(maps.Keys(p.now.edges))
	n := api.Net{N: len(nodes)}
	for _, e := range edges {
		ends := p.now.edges[e]
		n.Edges = append(n.Edges, [2]int{slices.Index(nodes, ends[0]), slices.Index(nodes, ends[1])})
	}
	return n, nodes, edges
}

// step does one of the calls to both, and tells what each of them answered.
func step(g *Graph, p *plain, op, a, b, c int) (string, []int, []int) {
	list := func(x, y int, e api.Errno) []int { return []int{x, y, int(e)} }
	one := func(x int, e api.Errno) []int { return []int{x, 0, int(e)} }
	none := func(e api.Errno) []int { return []int{0, 0, int(e)} }
	switch op {
	case 0, 1:
		return "AddNode", one(g.AddNode()), one(p.addNode())
	case 2, 3, 4:
		return "AddEdge", one(g.AddEdge(a, b)), one(p.addEdge(a, b))
	case 5:
		return "DropNode", one(g.DropNode(a)), one(p.dropNode(a))
	case 6:
		return "DropEdge", none(g.DropEdge(a)), none(p.dropEdge(a))
	case 7, 8:
		return "Split", list(g.Split(a)), list(p.split(a))
	case 9, 10:
		return "Unsplit", one(g.Unsplit(a)), one(p.unsplit(a))
	case 11, 12:
		return "Move", none(g.Move(a, c, b)), none(p.move(a, c, b))
	case 13:
		return "Mark", one(g.Mark(), api.OK), one(p.mark(), api.OK)
	default:
		return "Back", none(g.Back(a)), none(p.back(a))
	}
}

// agree: whether a graph tells what the plain one does, by all calls that tell.
func agree(t *testing.T, g *Graph, p *plain) {
	t.Helper()
	n, u, v := g.Net()
	m, x, y := p.net()
	if !net.Same(n, m) || !slices.Equal(u, x) || !slices.Equal(v, y) {
		t.Fatalf("P4.5: Net: %v, %v, %v, not %v, %v, %v", n, u, v, m, x, y)
	}
	for e := -1; e <= p.now.nextEdge; e++ {
		first, second, err := g.Ends(e)
		ends, ok := p.now.edges[e]
		if [2]int{first, second} != ends || (err == api.OK) != ok || !ok && err != api.ErrBounds {
			t.Fatalf("P4.4: Ends(%d): %d, %d, %v, not %v", e, first, second, err, ends)
		}
	}
	for v := -1; v <= p.now.nextNode; v++ {
		if l := slices.Collect(g.Edges(v)); !slices.Equal(l, p.at(v)) {
			t.Fatalf("P4.5: Edges(%d): %v, not %v", v, l, p.at(v))
		}
	}
}

// TestAgainstPlain: many calls, one behind the other, each answer and all that is told behind it; copies among them.
func TestAgainstPlain(t *testing.T) {
	for seed := range int64(400) {
		r := rand.New(rand.NewSource(seed))
		g, p := New(), newPlain()
		type pair struct {
			g *Graph
			p *plain
		}
		aside := []pair{}
		for range 120 {
			most := 3 + max(p.now.nextNode, p.now.nextEdge, p.last)
			op, a, b, c := r.Intn(15), r.Intn(most), r.Intn(most), r.Intn(4)-1
			name, got, want := step(g, p, op, a, b, c)
			if !slices.Equal(got, want) {
				t.Fatalf("P4.2 to P4.6: %s(%d, %d, %d): %v, not %v", name, a, b, c, got, want)
			}
			agree(t, g, p)
			switch r.Intn(20) {
			case 0:
				aside = append(aside, pair{g.Copy(), p.clone()})
			case 1:
				// The copy goes on, what it was copied of is put aside: both are to stay apart.
				aside = append(aside, pair{g, p.clone()})
				g = g.Copy()
			case 2:
				if len(aside) > 0 {
					i := r.Intn(len(aside))
					aside[i], g, p = pair{g, p}, aside[i].g, aside[i].p
				}
			}
		}
		for _, one := range aside {
			agree(t, one.g, one.p)
			for _, m := range slices.Backward(one.p.marks) {
				if got, want := one.g.Back(m.number), one.p.back(m.number); got != want {
					t.Fatalf("P4.6: Back(%d): %v, not %v", m.number, got, want)
				}
				agree(t, one.g, one.p)
			}
		}
	}
}
