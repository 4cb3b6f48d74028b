package glue

import (
	"math/rand"
	"slices"
	"testing"

	"tracery/api"
	"tracery/maker"
)

// small are lists of parts of some edges.
func small(t *testing.T) [][]api.Piece {
	t.Helper()
	must := made(t)
	var list [][]api.Piece
	for _, row := range rows() {
		list = append(list, row.ps, row.order)
	}
	for _, g := range []api.Net{
		must(maker.Grid(2, 4)), must(maker.Grid(3, 3)), must(maker.Two(2, 3)), doubled(must(maker.Cycle(3))), fan(t, 5),
		with(must(maker.Wheel(4)), 0, 1, 2, 3), doubled(must(maker.Complete(4))), must(maker.Prism(3)),
	} {
		list = append(list, parted(t, g))
	}
	return list
}

// checkChange: a list to which something was done may be just if the words say so; it tells whether it may.
func checkChange(t *testing.T, ps []api.Piece) bool {
	t.Helper()
	what := fault(ps)
	if May(ps) != (what == "") {
		t.Fatalf("P17.1: May(%v): %v, but: %q", ps, May(ps), what)
	}
	if what == "" {
		check(t, ps)
	}
	return what == ""
}

// changes are what may be done to a list of parts, by one word each.
func changes(ps []api.Piece) []func(ps []api.Piece) []api.Piece {
	var list []func(ps []api.Piece) []api.Piece
	add := func(do func(ps []api.Piece)) {
		list = append(list, func(ps []api.Piece) []api.Piece {
			do(ps)
			return ps
		})
	}
	top := len(together(ps).Edges)
	for i, p := range ps {
		list = append(list, func(ps []api.Piece) []api.Piece { return slices.Delete(ps, i, i+1) })
		list = append(list, func(ps []api.Piece) []api.Piece { return append(ps, copied(ps[i : i+1])[0]) })
		for kind := range 5 {
			add(func(ps []api.Piece) { ps[i].Kind = kind })
		}
		for k := range p.Nodes {
			add(func(ps []api.Piece) { ps[i].Nodes = slices.Delete(ps[i].Nodes, k, k+1) })
			add(func(ps []api.Piece) { ps[i].Nodes[k]++ })
			add(func(ps []api.Piece) { ps[i].Nodes[k]-- })
			add(func(ps []api.Piece) { ps[i].Nodes = slices.Insert(ps[i].Nodes, k, ps[i].Nodes[k]) })
		}
		for k := range p.Edges {
			add(func(ps []api.Piece) { ps[i].Edges = slices.Delete(ps[i].Edges, k, k+1) })
			add(func(ps []api.Piece) { ps[i].Edges = append(ps[i].Edges, ps[i].Edges[k]) })
			add(func(ps []api.Piece) {
				ps[i].Edges = append(ps[i].Edges, bond(ps[i].Edges[k].A, ps[i].Edges[k].B, top, -1))
			})
			add(func(ps []api.Piece) { ps[i].Edges[0], ps[i].Edges[k] = ps[i].Edges[k], ps[i].Edges[0] })
			for x := -2; x <= top; x++ {
				add(func(ps []api.Piece) { ps[i].Edges[k].Edge = x })
				add(func(ps []api.Piece) { ps[i].Edges[k].A = x })
				add(func(ps []api.Piece) { ps[i].Edges[k].B = x })
				if x <= len(ps) {
					add(func(ps []api.Piece) { ps[i].Edges[k].Twin = x })
				}
			}
		}
	}
	return list
}

// TestOneChange: each change by one word, alone.
func TestOneChange(t *testing.T) {
	t.Parallel()
	may, not := 0, 0
	for _, ps := range small(t) {
		for _, do := range changes(ps) {
			if checkChange(t, do(copied(ps))) {
				may++
			} else {
				not++
			}
		}
	}
	if may < 1000 || not < 10000 {
		t.Errorf("too few: %d may be, %d may not", may, not)
	}
}

// node writes v for u in the part i, wherever it stands.
func (w *worker) node(ps []api.Piece, i, u, v int) {
	name := func(x int) int {
		if x == u {
			return v
		}
		return x
	}
	for k, b := range ps[i].Edges {
		ps[i].Edges[k] = bond(name(b.A), name(b.B), b.Edge, b.Twin)
	}
	ps[i] = piece(ps[i].Kind, ps[i].Edges)
}

// worker does greater changes, of which each part stays what it is, or nearly.
type worker struct{ r *rand.Rand }

func (w *worker) change(ps []api.Piece) []api.Piece {
	i, j := w.r.Intn(len(ps)), w.r.Intn(len(ps))
	p, q := &ps[i], &ps[j]
	k, l := w.r.Intn(len(p.Edges)), w.r.Intn(len(q.Edges))
	switch w.r.Intn(6) {
	case 0: // another name for a node
		w.node(ps, i, p.Nodes[w.r.Intn(len(p.Nodes))], q.Nodes[w.r.Intn(len(q.Nodes))])
	case 1: // a new name for a node
		w.node(ps, i, p.Nodes[w.r.Intn(len(p.Nodes))], together(ps).N)
	case 2: // what two edges are, about
		a, b := p.Edges[k], q.Edges[l]
		p.Edges[k].Edge, p.Edges[k].Twin, q.Edges[l].Edge, q.Edges[l].Twin = b.Edge, b.Twin, a.Edge, a.Twin
	case 3: // two edges become twins
		p.Edges[k].Edge, p.Edges[k].Twin, q.Edges[l].Edge, q.Edges[l].Twin = -1, j, -1, i
	case 4: // an edge into another part
		q.Edges = append(q.Edges, p.Edges[k])
		p.Edges = slices.Delete(p.Edges, k, k+1)
		*p, *q = piece(p.Kind, p.Edges), piece(q.Kind, q.Edges)
	case 5: // twins are twins no more, but have an edge each
		if x := p.Edges[k].Twin; x >= 0 && x < len(ps) {
			m := len(edgesOf(ps))
			p.Edges[k].Edge, p.Edges[k].Twin = m, -1
			for y, b := range ps[x].Edges {
				if b.Twin == i {
					ps[x].Edges[y].Edge, ps[x].Edges[y].Twin = m+1, -1
				}
			}
		}
	}
	return ps
}

// TestGreaterChanges: up to three changes, after each of which the edges' numbers are made right again.
func TestGreaterChanges(t *testing.T) {
	t.Parallel()
	w := &worker{rand.New(rand.NewSource(185))}
	may, not := 0, 0
	for _, first := range small(t) {
		for range 600 {
			ps := copied(first)
			for range 1 + w.r.Intn(3) {
				if slices.ContainsFunc(ps, func(p api.Piece) bool { return len(p.Edges) == 0 }) {
					break
				}
				ps = numbered(w.change(ps))
				if checkChange(t, ps) {
					may++
				} else {
					not++
				}
			}
		}
	}
	if may < 200 || not < 5000 {
		t.Errorf("too few: %d may be, %d may not", may, not)
	}
}

// numbered are the parts with numbers of the real edges from 0 on, in order.
func numbered(ps []api.Piece) []api.Piece {
	e := 0
	for i, p := range ps {
		for k, b := range p.Edges {
			if b.Twin == -1 {
				ps[i].Edges[k].Edge = e
				e++
			}
		}
	}
	return ps
}
