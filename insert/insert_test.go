package insert

import (
	"math/rand"
	"slices"
	"testing"

	"tracery/api"
	"tracery/maker"
	"tracery/net"
	"tracery/planar"
	"tracery/rot"
)

// TestExamples: the chapter's table.
func TestExamples(t *testing.T) {
	must, r := made(t), rand.New(rand.NewSource(404))
	less := must(net.Sub(must(maker.Complete(5)), nums(0, 1, 2, 3, 4, 5, 6, 7, 8)))
	x, err := planar.Embed(less)
	mirror, _ := rot.Mirror(less, x)
	if err != api.OK {
		t.Fatalf("no rotation: %v", err)
	}
	for _, any := range []api.Rot{x, mirror, spun(r, x), spun(r, mirror)} {
		if n, err := Cost(less, any, 3, 4); n != 1 || err != api.OK {
			t.Errorf("P19.1: Cost(%v, %v, 3, 4): %d, %v", less, any, n, err)
		}
	}
	cycle, its := must(maker.Cycle(4)), api.Rot{{0, 7}, {2, 1}, {4, 3}, {5, 6}}
	if n, err := Cost(cycle, its, 0, 2); n != 0 || err != api.OK {
		t.Errorf("P19.1: Cost(%v, %v, 0, 2): %d, %v", cycle, its, n, err)
	}
	g, x, way, err := Cross(cycle, its, 0, 2)
	if !net.Same(g, with(cycle, 0, 2)) || !sameLists(x, api.Rot{{0, 7, 8}, {1, 2}, {3, 9, 4}, {5, 6}}) || !slices.Equal(way, nums(4)) || err != api.OK {
		t.Errorf("P19.2: Cross(%v, %v, 0, 2): %v, %v, %v, %v", cycle, its, g, x, way, err)
	}
	faces, _ := rot.Faces(g, x)
	if !sameLists(faces, [][]int{{0, 2, 9}, {1, 7, 5, 3}, {4, 6, 8}}) {
		t.Errorf("P19.2: the chord isn't in the face 0: %v", faces)
	}
}

// row is two nodes, and what is told of them.
type row struct {
	name  string
	g     api.Net
	x     api.Rot
	u, v  int
	route []int
	ends  []int // of the edges of the net that comes
	rot   api.Rot
	way   []int
}

// rows are worked out by hand.
func rows() []row {
	star, five := of(4, 0, 1, 0, 2, 0, 3), api.Rot{{0, 2, 4}, {1}, {3}, {5}}
	loop, split := of(3, 0, 0, 0, 1, 0, 2), nums(0, 3, 0, 1, 0, 2, 3, 0)
	bond := of(2, 0, 1, 1, 0, 0, 1)
	apart := of(7, 3, 6, 2, 2, 5, 3)
	twice := of(3, 0, 0, 0, 0, 0, 1, 0, 2)
	return []row{
		{"an edge", of(2, 0, 1), api.Rot{{0}, {1}}, 0, 1, nil, nums(0, 1, 0, 1), api.Rot{{0, 2}, {1, 3}}, nums(1)},
		{"an edge, back", of(2, 0, 1), api.Rot{{0}, {1}}, 1, 0, nil, nums(0, 1, 1, 0), api.Rot{{0, 3}, {1, 2}}, nums(1)},
		{"bridges", star, five, 0, 2, nil, nums(0, 1, 0, 2, 0, 3, 0, 2), api.Rot{{0, 6, 2, 4}, {1}, {3, 7}, {5}}, nums(3)},
		{"bridges, begun elsewhere", star, api.Rot{{2, 4, 0}, {1}, {3}, {5}}, 0, 2, nil, nums(0, 1, 0, 2, 0, 3, 0, 2), api.Rot{{0, 6, 2, 4}, {1}, {3, 7}, {5}}, nums(3)},
		{"bridges, to their node", star, five, 3, 0, nil, nums(0, 1, 0, 2, 0, 3, 3, 0), api.Rot{{0, 7, 2, 4}, {1}, {3}, {5, 6}}, nums(3)},
		{"from leaf to leaf", star, five, 1, 3, nil, nums(0, 1, 0, 2, 0, 3, 1, 3), api.Rot{{0, 2, 4}, {1, 6}, {3}, {5, 7}}, nums(3)},
		{"out of a loop", loop, api.Rot{{0, 2, 1, 4}, {3}, {5}}, 1, 2, nums(0), append(split, 1, 3, 3, 2), api.Rot{{0, 2, 7, 4}, {3, 8}, {5, 11}, {1, 10, 6, 9}}, nums(4, 5)},
		{"into a loop", loop, api.Rot{{1, 4, 0, 2}, {3}, {5}}, 2, 1, nums(0), append(split, 2, 3, 3, 1), api.Rot{{0, 2, 7, 4}, {3, 11}, {5, 8}, {1, 9, 6, 10}}, nums(4, 5)},
		{"of three faces the least", bond, api.Rot{{0, 3, 4}, {1, 5, 2}}, 0, 1, nil, nums(0, 1, 1, 0, 0, 1, 0, 1), api.Rot{{0, 3, 4, 6}, {1, 7, 5, 2}}, nums(3)},
		{"of three faces the least, back", bond, api.Rot{{0, 3, 4}, {1, 5, 2}}, 1, 0, nil, nums(0, 1, 1, 0, 0, 1, 1, 0), api.Rot{{0, 3, 4, 7}, {1, 6, 5, 2}}, nums(3)},
		{"among others", apart, api.Rot{nil, nil, {3, 2}, {0, 5}, nil, {4}, {1}}, 5, 6, nil, nums(3, 6, 2, 2, 5, 3, 5, 6), api.Rot{nil, nil, {2, 3}, {0, 5}, nil, {4, 6}, {1, 7}}, nums(3)},
		{"over two loops", twice, api.Rot{{0, 2, 4, 3, 1, 6}, {5}, {7}}, 1, 2, nums(1, 0), nums(0, 4, 0, 3, 0, 1, 0, 2, 3, 0, 4, 0, 1, 3, 3, 4, 4, 2),
			api.Rot{{0, 2, 4, 9, 11, 6}, {5, 12}, {7, 17}, {3, 14, 8, 13}, {1, 16, 10, 15}}, nums(6, 7, 8)},
	}
}

func TestRows(t *testing.T) {
	for _, row := range rows() {
		if genus, err := rot.Genus(row.g, row.x); genus != 0 || err != api.OK {
			t.Fatalf("%s: genus %d, %v", row.name, genus, err)
		}
		a := ask(row.g, row.x, row.u, row.v)
		if a.errs != [3]api.Errno{} || !slices.Equal(a.route, row.route) || a.cost != len(row.route) {
			t.Errorf("P19.1: %s: %v, cost %d, %v, not %v", row.name, a.route, a.cost, a.errs, row.route)
		}
		want := of(row.g.N+len(row.route), row.ends...)
		if !net.Same(a.net, want) || !sameLists(a.rot, row.rot) || !slices.Equal(a.way, row.way) {
			t.Errorf("P19.2: %s: %v, %v, %v, not %v, %v, %v", row.name, a.net, a.rot, a.way, want, row.rot, row.way)
		}
		checkCross(t, row.g, row.x, row.u, row.v)
		checkCross(t, row.g, row.x, row.v, row.u)
	}
}

// TestLeastFace: where the nodes have many faces in common, the edge is laid in the one with the least number.
func TestLeastFace(t *testing.T) {
	t.Parallel()
	r := rand.New(rand.NewSource(405))
	many := 0
	for range 300 {
		bond := made(t)(maker.Bond(2 + r.Intn(6)))
		x, _ := planar.Embed(bond)
		g, x, node := mixed(r, bond, x)
		u, v := node[0], node[1]
		_, y, way, err := Cross(g, spun(r, x), u, v)
		if err != api.OK || !slices.Equal(way, nums(len(g.Edges))) {
			t.Fatalf("P19.2: Cross(%v, %v, %d, %d): %v, %v", g, x, u, v, way, err)
		}
		faces, _ := rot.Faces(g, x) // each one has two half-edges
		list := y[u]
		place := slices.Index(list, 2*way[0])
		if after := list[(place+1)%len(list)]; !slices.Contains(faces[0], after) {
			t.Fatalf("P19.2: Cross(%v, %v, %d, %d): %v: laid ahead of %d, which is not of the face 0: %v", g, x, u, v, y, after, faces)
		}
		if faces[0][0] != list[0] && faces[0][1] != list[0] {
			many++
		}
	}
	if many == 0 {
		t.Error("P19.2: the face 0 was always the first of the node's list")
	}
}
