package glue

import (
	"math/rand"
	"slices"
	"testing"

	"tracery/api"
	"tracery/block"
	"tracery/maker"
	"tracery/net"
	"tracery/spqr"
)

func TestExamples(t *testing.T) {
	if May(nil) || May([]api.Piece{}) {
		t.Error("P17.1: May of none")
	}
	if ps := parted(t, made(t)(maker.Cycle(3))); !May(ps) {
		t.Errorf("P17.1: May(%v)", ps)
	}
	ps := parted(t, with(made(t)(maker.Cycle(4)), 0, 2))
	for _, row := range []struct {
		i, j int
		want []int
		err  api.Errno
	}{
		{1, 0, nums(0, 1), api.OK}, {0, 1, nums(2, 3, 4), api.OK}, {0, 2, nil, api.ErrBounds},
		{1, 2, nums(2, 3), api.OK}, {2, 1, nums(0, 1, 4), api.OK}, {2, 0, nil, api.ErrBounds},
		{0, 0, nil, api.ErrBounds}, {0, 3, nil, api.ErrBounds}, {3, 0, nil, api.ErrBounds}, {0, -1, nil, api.ErrBounds}, {-1, 0, nil, api.ErrBounds}, {-1, -1, nil, api.ErrBounds},
	} {
		if edges, err := Side(ps, row.i, row.j); !slices.Equal(edges, row.want) || err != row.err {
			t.Errorf("P17.2: Side(%d, %d): %v, %v, not %v, %v", row.i, row.j, edges, err, row.want, row.err)
		}
	}
	if tree, err := Tree(ps); !net.Same(tree, of(3, 0, 1, 1, 2)) || err != api.OK {
		t.Errorf("P17.2: Tree: %v, %v", tree, err)
	}
}

// row is a list of parts, and all that is told of it, by hand.
type row struct {
	name  string
	ps    []api.Piece
	g     api.Net
	order []api.Piece
	tree  api.Net
}

func rows() []row {
	k4 := of(4, 0, 1, 0, 2, 0, 3, 1, 2, 1, 3, 2, 3)
	return []row{
		{"one Ring, its edges in any order",
			[]api.Piece{ring(edge(0, 2, 2), edge(0, 1, 0), edge(1, 2, 1))},
			of(3, 0, 1, 1, 2, 0, 2), []api.Piece{ring(edge(0, 1, 0), edge(1, 2, 1), edge(0, 2, 2))}, of(1)},
		{"one Sheaf",
			[]api.Piece{sheaf(edge(0, 1, 1), edge(0, 1, 2), edge(0, 1, 0))},
			of(2, 0, 1, 0, 1, 0, 1), []api.Piece{sheaf(edge(0, 1, 0), edge(0, 1, 1), edge(0, 1, 2))}, of(1)},
		{"one Rigid",
			[]api.Piece{rigid(edge(0, 1, 0), edge(2, 3, 5), edge(0, 3, 2), edge(1, 2, 3), edge(0, 2, 1), edge(1, 3, 4))},
			k4, []api.Piece{rigid(edge(0, 1, 0), edge(0, 2, 1), edge(0, 3, 2), edge(1, 2, 3), edge(1, 3, 4), edge(2, 3, 5))}, of(1)},
		{"the cycle of 4 with a chord, the parts backward",
			[]api.Piece{ring(twin(0, 2, 1), edge(0, 3, 3), edge(2, 3, 2)), sheaf(twin(0, 2, 2), twin(0, 2, 0), edge(0, 2, 4)), ring(twin(0, 2, 1), edge(1, 2, 1), edge(0, 1, 0))},
			of(4, 0, 1, 1, 2, 2, 3, 0, 3, 0, 2), chord(), of(3, 0, 1, 1, 2)},
		{"a Sheaf with three Rings on it, between others in number",
			[]api.Piece{
				ring(edge(0, 4, 5), twin(0, 1, 2), edge(1, 4, 4)), ring(twin(0, 1, 2), edge(0, 2, 1), edge(1, 2, 3)),
				sheaf(twin(0, 1, 1), twin(0, 1, 3), twin(0, 1, 0)), ring(edge(1, 3, 2), edge(0, 3, 0), twin(0, 1, 2))},
			of(5, 0, 3, 0, 2, 1, 3, 1, 2, 1, 4, 0, 4),
			[]api.Piece{
				ring(edge(0, 3, 0), edge(1, 3, 2), twin(0, 1, 1)), sheaf(twin(0, 1, 0), twin(0, 1, 2), twin(0, 1, 3)),
				ring(edge(0, 2, 1), edge(1, 2, 3), twin(0, 1, 1)), ring(edge(1, 4, 4), edge(0, 4, 5), twin(0, 1, 1))},
			of(4, 0, 2, 1, 2, 2, 3)},
		{"what hangs on a part comes ahead of its next twin",
			[]api.Piece{
				sheaf(edge(1, 2, 5), edge(1, 2, 4), twin(1, 2, 3)), ring(edge(1, 3, 3), edge(0, 3, 2), twin(0, 1, 2)),
				sheaf(twin(0, 1, 1), edge(0, 1, 1), twin(0, 1, 3)), ring(twin(1, 2, 0), twin(0, 1, 2), edge(0, 2, 0))},
			of(4, 0, 2, 0, 1, 0, 3, 1, 3, 1, 2, 1, 2),
			[]api.Piece{
				ring(edge(0, 2, 0), twin(0, 1, 1), twin(1, 2, 3)), sheaf(edge(0, 1, 1), twin(0, 1, 0), twin(0, 1, 2)),
				ring(edge(0, 3, 2), edge(1, 3, 3), twin(0, 1, 1)), sheaf(edge(1, 2, 4), edge(1, 2, 5), twin(1, 2, 0))},
			of(4, 0, 3, 1, 2, 2, 3)},
		{"two Rigids that are twins",
			[]api.Piece{
				rigid(edge(0, 4, 5), edge(0, 5, 6), edge(1, 4, 7), twin(0, 1, 1), edge(1, 5, 8), edge(4, 5, 9)),
				rigid(twin(0, 1, 0), edge(0, 2, 0), edge(2, 3, 4), edge(0, 3, 1), edge(1, 2, 2), edge(1, 3, 3))},
			of(6, 0, 2, 0, 3, 1, 2, 1, 3, 2, 3, 0, 4, 0, 5, 1, 4, 1, 5, 4, 5),
			[]api.Piece{
				rigid(edge(0, 2, 0), edge(0, 3, 1), edge(1, 2, 2), edge(1, 3, 3), edge(2, 3, 4), twin(0, 1, 1)),
				rigid(edge(0, 4, 5), edge(0, 5, 6), edge(1, 4, 7), edge(1, 5, 8), edge(4, 5, 9), twin(0, 1, 0))},
			of(2, 0, 1)},
	}
}

func TestRows(t *testing.T) {
	for _, row := range rows() {
		if g, err := Net(row.ps); !May(row.ps) || !net.Same(g, row.g) || err != api.OK {
			t.Errorf("P17.1: Net of %s: %v, %v, not %v", row.name, g, err, row.g)
		}
		if list, err := Order(row.ps); !samePieces(list, row.order) || err != api.OK {
			t.Errorf("P17.1: Order of %s: %v, %v, not %v", row.name, list, err, row.order)
		}
		if tree, err := Tree(row.ps); !net.Same(tree, row.tree) || err != api.OK {
			t.Errorf("P17.2: Tree of %s: %v, %v, not %v", row.name, tree, err, row.tree)
		}
		check(t, row.ps)
		for i := range row.ps {
			for _, x := range strange() {
				noSide(t, row.ps, i, x, api.ErrBounds)
				noSide(t, row.ps, x, i, api.ErrBounds)
			}
		}
	}
}

// checkParts: the parts of a net may be, in its order and in others; put together they are the net.
func checkParts(t *testing.T, r *rand.Rand, g api.Net) bool {
	t.Helper()
	ps, err := spqr.Of(g)
	if err != api.OK {
		return false
	}
	for range 2 {
		if got, err := Net(ps); !check(t, ps) || !net.Same(got, level(g)) || err != api.OK {
			t.Fatalf("W2: the net of the parts of %v: %v, %v", g, got, err)
		}
		ps = mixed(r, ps)
	}
	return true
}

// TestKinds: the parts of well-known nets, of such as are put together, and with each edge twice.
func TestKinds(t *testing.T) {
	t.Parallel()
	r := rand.New(rand.NewSource(183))
	list := kinds(t)
	for _, g := range list {
		if whole, _ := block.Biconnected(g); checkParts(t, r, g) != (whole && len(g.Edges) >= 3) {
			t.Errorf("W2: no parts of %v", g)
		}
		checkParts(t, r, shuffled(t, r, g))
		checkParts(t, r, doubled(g))
		for range 4 {
			both := atTwo(t, r, g, list[r.Intn(len(list))])
			checkParts(t, r, both)
			if len(both.Edges) > 0 {
				checkParts(t, r, atTwo(t, r, both, list[r.Intn(len(list))]))
			}
		}
	}
}

// TestMany: the parts of drawn nets: cycles with rows from node to node, with chords and parallel edges, and any ones.
func TestMany(t *testing.T) {
	t.Parallel()
	r := rand.New(rand.NewSource(184))
	for i := range 500 {
		g := eared(t, r, i%9)
		checkParts(t, r, g)
		checkParts(t, r, more(r, g, r.Intn(4)))
		checkParts(t, r, some(r, 2+i%9, 2+i%21))
		checkParts(t, r, loopless(r, 2+i%9, 2+i%21))
	}
	for n := 4; n < 24; n++ {
		checkParts(t, r, fan(t, n))
		checkParts(t, r, made(t)(maker.Grid(2+n%3, n)))
		checkParts(t, r, more(r, made(t)(maker.Cycle(n)), n/3))
	}
}
