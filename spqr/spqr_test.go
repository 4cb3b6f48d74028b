package spqr

import (
	"testing"

	"tracery/api"
	"tracery/maker"
	"tracery/net"
)

// row is a net of which the tree of parts is known by hand.
type row struct {
	name string
	g    api.Net
	want []api.Piece
}

// ringsAndSheaves are nets whose parts are such alone.
func ringsAndSheaves() []row {
	four := of(4, 0, 1, 1, 2, 2, 3, 3, 0)
	return []row{
		{"a cycle of three", of(3, 0, 1, 1, 2, 2, 0), []api.Piece{ring(edge(0, 1, 0), edge(1, 2, 1), edge(0, 2, 2))}},
		{"three parallel edges", of(2, 1, 0, 0, 1, 1, 0), []api.Piece{sheaf(edge(0, 1, 0), edge(0, 1, 1), edge(0, 1, 2))}},
		{"four parallel edges", of(2, 0, 1, 0, 1, 0, 1, 0, 1), []api.Piece{sheaf(edge(0, 1, 0), edge(0, 1, 1), edge(0, 1, 2), edge(0, 1, 3))}},
		{"a cycle of four", four, []api.Piece{ring(edge(0, 1, 0), edge(1, 2, 1), edge(2, 3, 2), edge(0, 3, 3))}},
		{"a cycle of five, not in its order", of(5, 0, 3, 1, 4, 3, 1, 2, 0, 4, 2), []api.Piece{
			ring(edge(0, 3, 0), edge(1, 4, 1), edge(1, 3, 2), edge(0, 2, 3), edge(2, 4, 4))}},
		{"a cycle of four, a chord behind", with(four, 0, 2), []api.Piece{
			ring(edge(0, 1, 0), edge(1, 2, 1), twin(0, 2, 1)),
			sheaf(edge(0, 2, 4), twin(0, 2, 0), twin(0, 2, 2)),
			ring(edge(2, 3, 2), edge(0, 3, 3), twin(0, 2, 1))}},
		{"a cycle of four, a chord ahead", of(4, 2, 0, 0, 1, 1, 2, 2, 3, 3, 0), []api.Piece{
			sheaf(edge(0, 2, 0), twin(0, 2, 1), twin(0, 2, 2)),
			ring(edge(0, 1, 1), edge(1, 2, 2), twin(0, 2, 0)),
			ring(edge(2, 3, 3), edge(0, 3, 4), twin(0, 2, 0))}},
		{"a cycle of four, the chord twice", with(four, 0, 2, 2, 0), []api.Piece{
			ring(edge(0, 1, 0), edge(1, 2, 1), twin(0, 2, 1)),
			sheaf(edge(0, 2, 4), edge(0, 2, 5), twin(0, 2, 0), twin(0, 2, 2)),
			ring(edge(2, 3, 2), edge(0, 3, 3), twin(0, 2, 1))}},
		{"a cycle of three, an edge twice", of(3, 0, 1, 1, 2, 2, 0, 0, 2), []api.Piece{
			ring(edge(0, 1, 0), edge(1, 2, 1), twin(0, 2, 1)), sheaf(edge(0, 2, 2), edge(0, 2, 3), twin(0, 2, 0))}},
		{"a cycle of three, an edge thrice", of(3, 0, 1, 1, 0, 1, 2, 2, 0, 0, 1), []api.Piece{
			sheaf(edge(0, 1, 0), edge(0, 1, 1), edge(0, 1, 4), twin(0, 1, 1)), ring(edge(1, 2, 2), edge(0, 2, 3), twin(0, 1, 0))}},
		{"a cycle of three, each edge twice", of(3, 0, 1, 1, 2, 0, 2, 1, 0, 2, 1, 2, 0), []api.Piece{
			sheaf(edge(0, 1, 0), edge(0, 1, 3), twin(0, 1, 1)),
			ring(twin(0, 1, 0), twin(1, 2, 2), twin(0, 2, 3)),
			sheaf(edge(1, 2, 1), edge(1, 2, 4), twin(1, 2, 1)),
			sheaf(edge(0, 2, 2), edge(0, 2, 5), twin(0, 2, 1))}},
		{"three ways between two nodes", of(5, 0, 2, 2, 1, 0, 3, 3, 1, 0, 4, 4, 1), []api.Piece{
			ring(edge(0, 2, 0), edge(1, 2, 1), twin(0, 1, 1)),
			sheaf(twin(0, 1, 0), twin(0, 1, 2), twin(0, 1, 3)),
			ring(edge(0, 3, 2), edge(1, 3, 3), twin(0, 1, 1)),
			ring(edge(0, 4, 4), edge(1, 4, 5), twin(0, 1, 1))}},
		{"a row of three squares", of(8, 0, 1, 0, 2, 1, 3, 2, 3, 2, 4, 3, 5, 4, 5, 4, 6, 5, 7, 6, 7), []api.Piece{
			ring(edge(0, 1, 0), edge(0, 2, 1), edge(1, 3, 2), twin(2, 3, 1)),
			sheaf(edge(2, 3, 3), twin(2, 3, 0), twin(2, 3, 2)),
			ring(edge(2, 4, 4), edge(3, 5, 5), twin(2, 3, 1), twin(4, 5, 3)),
			sheaf(edge(4, 5, 6), twin(4, 5, 2), twin(4, 5, 4)),
			ring(edge(4, 6, 7), edge(5, 7, 8), edge(6, 7, 9), twin(4, 5, 3))}},
	}
}

// inNumbers are nets that tell the numbers of doc/16 from others.
func inNumbers() []row {
	return []row{
		{"what hangs on a part comes ahead of its next twin", of(4, 0, 2, 0, 1, 0, 3, 3, 1, 1, 2, 2, 1), []api.Piece{
			ring(edge(0, 2, 0), twin(0, 1, 1), twin(1, 2, 3)),
			sheaf(edge(0, 1, 1), twin(0, 1, 0), twin(0, 1, 2)),
			ring(edge(0, 3, 2), edge(1, 3, 3), twin(0, 1, 1)),
			sheaf(edge(1, 2, 4), edge(1, 2, 5), twin(1, 2, 0))}},
		{"the least edge may be in what hangs on a part", of(4, 0, 2, 0, 3, 3, 1, 1, 2, 2, 1, 0, 1), []api.Piece{
			ring(edge(0, 2, 0), twin(0, 1, 1), twin(1, 2, 3)),
			sheaf(edge(0, 1, 5), twin(0, 1, 0), twin(0, 1, 2)),
			ring(edge(0, 3, 1), edge(1, 3, 2), twin(0, 1, 1)),
			sheaf(edge(1, 2, 3), edge(1, 2, 4), twin(1, 2, 0))}},
		{"the first part is one that hangs on another", of(4, 3, 0, 0, 2, 2, 1, 2, 1, 1, 0, 1, 3), []api.Piece{
			ring(edge(0, 3, 0), edge(1, 3, 5), twin(0, 1, 1)),
			sheaf(edge(0, 1, 4), twin(0, 1, 0), twin(0, 1, 2)),
			ring(edge(0, 2, 1), twin(0, 1, 1), twin(1, 2, 3)),
			sheaf(edge(1, 2, 2), edge(1, 2, 3), twin(1, 2, 2))}},
	}
}

// withRigids are nets that have such parts.
func withRigids(t *testing.T) []row {
	t.Helper()
	must := made(t)
	k4 := must(maker.Complete(4))
	tied := with(must(net.Join(k4, k4)), 0, 7, 1, 6)
	return []row{
		{"K4", k4, []api.Piece{rigid(edge(0, 1, 0), edge(0, 2, 1), edge(0, 3, 2), edge(1, 2, 3), edge(1, 3, 4), edge(2, 3, 5))}},
		{"K4, an edge twice", with(k4, 3, 1), []api.Piece{
			rigid(edge(0, 1, 0), edge(0, 2, 1), edge(0, 3, 2), edge(1, 2, 3), edge(2, 3, 5), twin(1, 3, 1)),
			sheaf(edge(1, 3, 4), edge(1, 3, 6), twin(1, 3, 0))}},
		{"K4 and a node on an edge", must(net.Split(k4, 0)), []api.Piece{
			ring(edge(0, 4, 0), edge(1, 4, 6), twin(0, 1, 1)),
			rigid(edge(0, 2, 1), edge(0, 3, 2), edge(1, 2, 3), edge(1, 3, 4), edge(2, 3, 5), twin(0, 1, 0))}},
		{"K4 twice with two edges between", tied, []api.Piece{
			sheaf(edge(0, 1, 0), twin(0, 1, 1), twin(0, 1, 2)),
			rigid(edge(0, 2, 1), edge(0, 3, 2), edge(1, 2, 3), edge(1, 3, 4), edge(2, 3, 5), twin(0, 1, 0)),
			ring(edge(0, 7, 12), edge(1, 6, 13), twin(0, 1, 0), twin(6, 7, 3)),
			sheaf(edge(6, 7, 11), twin(6, 7, 2), twin(6, 7, 4)),
			rigid(edge(4, 5, 6), edge(4, 6, 7), edge(4, 7, 8), edge(5, 6, 9), edge(5, 7, 10), twin(6, 7, 3))}},
		{"K4 twice with two nodes in common, not joined", of(6, 0, 2, 0, 3, 1, 2, 1, 3, 2, 3, 0, 4, 0, 5, 1, 4, 1, 5, 4, 5), []api.Piece{
			rigid(edge(0, 2, 0), edge(0, 3, 1), edge(1, 2, 2), edge(1, 3, 3), edge(2, 3, 4), twin(0, 1, 1)),
			rigid(edge(0, 4, 5), edge(0, 5, 6), edge(1, 4, 7), edge(1, 5, 8), edge(4, 5, 9), twin(0, 1, 0))}},
	}
}

func rows(t *testing.T) []row {
	t.Helper()
	list := append(ringsAndSheaves(), inNumbers()...)
	return append(list, withRigids(t)...)
}

func TestRows(t *testing.T) {
	for _, row := range rows(t) {
		if ps, err := Of(row.g); !samePieces(ps, row.want) || err != api.OK {
			t.Errorf("P16.1: Of %s: %v, %v, not %v", row.name, ps, err, row.want)
		}
		check(t, row.g)
	}
}

func TestExamples(t *testing.T) {
	must := made(t)
	for _, row := range []struct {
		name                   string
		g                      api.Net
		rings, sheaves, rigids int
	}{
		{"Cycle(3)", must(maker.Cycle(3)), 1, 0, 0},
		{"Bond(3)", must(maker.Bond(3)), 0, 1, 0},
		{"the cycle of 4 with an edge (0, 2) behind", with(must(maker.Cycle(4)), 0, 2), 2, 1, 0},
		{"Wheel(5)", must(maker.Wheel(5)), 0, 0, 1},
		{"Prism(3)", must(maker.Prism(3)), 0, 0, 1},
	} {
		rings, sheaves, rigids, err := Kinds(row.g)
		if rings != row.rings || sheaves != row.sheaves || rigids != row.rigids || err != api.OK {
			t.Errorf("P16.1: Kinds of %s: %d %d %d, %v", row.name, rings, sheaves, rigids, err)
		}
		check(t, row.g)
	}
}

// refused: both calls answer that error and nothing else.
func refused(t *testing.T, g api.Net, want api.Errno) {
	t.Helper()
	if ps, err := Of(g); err != want || len(ps) != 0 {
		t.Errorf("P16.1: Of %d nodes, %d edges: %v, %v, not %v", g.N, len(g.Edges), ps, err, want)
	}
	if rings, sheaves, rigids, err := Kinds(g); err != want || rings != 0 || sheaves != 0 || rigids != 0 {
		t.Errorf("P16.1: Kinds of %d nodes, %d edges: %d %d %d, %v, not %v", g.N, len(g.Edges), rings, sheaves, rigids, err, want)
	}
}

func TestRefused(t *testing.T) {
	for _, g := range wrong() {
		refused(t, g, api.ErrArg)
	}
	for _, g := range loose(t) { // of fewer than three edges too
		refused(t, g, api.ErrBicon)
	}
	for _, g := range []api.Net{of(2, 0, 1), of(2, 1, 0), of(2, 0, 1, 0, 1), of(2, 0, 1, 1, 0)} { // no other net is biconnected and so small
		refused(t, g, api.ErrSmall)
	}
}
