package dual

import (
	"math"
	"math/rand"
	"slices"
	"testing"

	"tracery/api"
	"tracery/maker"
	"tracery/net"
	"tracery/rot"
)

// of is a net of n nodes, the ends of its edges in a row.
func of(n int, ends ...int) api.Net {
	g := api.Net{N: n}
	for i := 0; i+1 < len(ends); i += 2 {
		g.Edges = append(g.Edges, [2]int{ends[i], ends[i+1]})
	}
	return g
}

// example is the net of the chapter's examples, and its only rotation.
func example() (api.Net, api.Rot) {
	return of(3, 0, 1, 1, 2, 2, 0), api.Rot{{0, 5}, {1, 2}, {3, 4}}
}

func nums(list ...int) []int { return list }

func corner(node, after int) api.Corner { return api.Corner{Node: node, After: after} }

// strange are numbers that are no node, no half-edge and no face of a small net; -1 is one of them.
func strange() []int {
	return nums(-1, -2, -1<<32, 1<<32, 1024, 3072, math.MinInt, math.MinInt+1, math.MaxInt, math.MaxInt-1)
}

// wrong are nets that may not be.
func wrong() []api.Net {
	list := []api.Net{
		{N: -1}, {N: math.MinInt}, {N: 1025}, {N: math.MaxInt}, {N: 1 << 32},
		of(0, 0, 0), of(-1, 0, 0), of(1025, 0, 1), of(1, 0, 1), of(1, 1, 0), of(3, 0, 1, 1, 2, 3, 3),
		{N: 1, Edges: make([][2]int, 3073)}, {N: 1024, Edges: make([][2]int, 5000)},
	}
	for _, x := range strange() {
		list = append(list, of(4, 0, x), of(4, x, 0), of(4, x, x), of(4, 0, 1, 2, 3, 1, x), of(4, x, 1, 2, 3))
	}
	return list
}

// some is a net of at most n nodes and m edges, all kinds of edges among them.
func some(r *rand.Rand, n, m int) api.Net {
	g := api.Net{N: r.Intn(n + 1)}
	if g.N == 0 {
		return g
	}
	for range r.Intn(m + 1) {
		g.Edges = append(g.Edges, [2]int{r.Intn(g.N), r.Intn(g.N)})
	}
	return g
}

// rising is the rotation whose lists rise.
func rising(g api.Net) api.Rot {
	r := make(api.Rot, g.N)
	for h := range 2 * len(g.Edges) {
		v := g.Edges[h/2][h%2]
		r[v] = append(r[v], h)
	}
	return r
}

// shuffled is any rotation of g, planar or not.
func shuffled(r *rand.Rand, g api.Net) api.Rot {
	x := rising(g)
	for _, list := range x {
		r.Shuffle(len(list), func(i, k int) { list[i], list[k] = list[k], list[i] })
	}
	return x
}

// made hands on what a maker's call answers.
func made(t *testing.T) func(g api.Net, err api.Errno) api.Net {
	return func(g api.Net, err api.Errno) api.Net {
		t.Helper()
		if err != api.OK {
			t.Fatalf("the maker refused: %v", err)
		}
		return g
	}
}

// great are nets as great as they may be, or nearly.
func great(t *testing.T) []api.Net {
	must, r := made(t), rand.New(rand.NewSource(110))
	loops := api.Net{N: 1024}
	for range 3072 {
		v := r.Intn(1024)
		loops.Edges = append(loops.Edges, [2]int{v, v})
	}
	return []api.Net{
		must(maker.Path(1024)), must(maker.Cycle(1024)), must(maker.Grid(32, 32)), must(maker.Wheel(1023)),
		must(maker.Stack(1024, 3)), must(maker.Prism(512)), must(maker.Complete(78)), must(maker.Two(48, 64)),
		must(maker.Bond(3072)), must(maker.Random(1024, 3072, 7)), must(maker.Random(1024, 900, 8)),
		{N: 1024}, {N: 1, Edges: make([][2]int, 3072)}, {N: 1024, Edges: make([][2]int, 3072)}, loops,
	}
}

// squares is a net of rows and columns, each node's half-edges up, right, down and left.
func squares(side int) (api.Net, api.Rot) {
	g := api.Net{N: side * side}
	four := make([][4]int, g.N)
	for v := range four {
		four[v] = [4]int{-1, -1, -1, -1}
	}
	join := func(a, b, way int) { // way^2 is the way back
		four[a][way], four[b][way^2] = 2*len(g.Edges), 2*len(g.Edges)+1
		g.Edges = append(g.Edges, [2]int{a, b})
	}
	for v := range g.N {
		if v%side+1 < side {
			join(v, v+1, 1)
		}
		if v+side < g.N {
			join(v, v+side, 2)
		}
	}
	x := make(api.Rot, g.N)
	for v, list := range four {
		for _, h := range list {
			if h >= 0 {
				x[v] = append(x[v], h)
			}
		}
	}
	return g, x
}

// planarBond is two nodes with that many edges, no two of them across one another: a face between each two.
func planarBond(many int) (api.Net, api.Rot) {
	g := api.Net{N: 2}
	for range many {
		g.Edges = append(g.Edges, [2]int{0, 1})
	}
	x := rising(g)
	slices.Reverse(x[1])
	return g, x
}

// equal tells whether lists are the same, a nil one as an empty one.
func equal(a, b [][]int) bool {
	return slices.EqualFunc(a, b, func(x, y []int) bool { return slices.Equal(x, y) })
}

// deep is a copy of all lists.
func deep(lists [][]int) [][]int {
	var all [][]int
	for _, list := range lists {
		all = append(all, slices.Clone(list))
	}
	return all
}

// with is r with another list at v.
func with(r api.Rot, v int, list ...int) api.Rot {
	other := deep(r)
	other[v] = list
	return other
}

// canon is r's lists from their least half-edges on.
func canon(r api.Rot) api.Rot {
	all := make(api.Rot, len(r))
	for v, list := range r {
		for i, h := range list {
			if h == slices.Min(list) {
				all[v] = slices.Concat(list[i:], list[:i])
			}
		}
	}
	return all
}

// corners are all corners of a rotation.
func corners(r api.Rot) []api.Corner {
	var all []api.Corner
	for v, list := range r {
		if len(list) == 0 {
			all = append(all, corner(v, -1))
		}
		for _, h := range list {
			all = append(all, corner(v, h))
		}
	}
	return all
}

func genus(t *testing.T, g api.Net, r api.Rot) int {
	t.Helper()
	n, err := rot.Genus(g, r)
	if err != api.OK {
		t.Fatalf("no rotation: %v of %v: %v", r, g, err)
	}
	return n
}

func faces(t *testing.T, g api.Net, r api.Rot) [][]int {
	t.Helper()
	all, err := rot.Faces(g, r)
	if err != api.OK {
		t.Fatalf("no rotation: %v of %v: %v", r, g, err)
	}
	return all
}

// TestRefused: rot.May's errors, ahead of all others, whatever else is handed in.
func TestRefused(t *testing.T) {
	g, r := example()
	for _, bad := range wrong() {
		for _, x := range []api.Rot{nil, {}, {nil}, r} {
			for _, c := range calls() {
				if a := c.ask(told{bad, x, corner(-1, 9), corner(9, -1), -1, -1}); a.err != api.ErrArg || !a.nothing() {
					t.Errorf("rot.May's error: %s of %v: %v", c.name, bad.N, a)
				}
			}
		}
	}
	for _, x := range []api.Rot{nil, {}, r[:2], append(deep(r), nil), with(r, 0, 0), with(r, 1, 1, 1), with(r, 1, 1, 2, 2), {{1, 2}, {0, 5}, {3, 4}}} {
		for _, c := range calls() {
			if a := c.ask(told{g, x, corner(-1, 9), corner(9, -1), -1, -1}); a.err != api.ErrRot || !a.nothing() {
				t.Errorf("rot.May's error: %s of %v: %v", c.name, x, a)
			}
		}
	}
	full := api.Net{N: 1024, Edges: make([][2]int, 3072)} // what is too great beside what is wrong
	for _, c := range calls() {
		if a := c.ask(told{full, nil, corner(0, 0), corner(0, 1), 0, 0}); a.err != api.ErrRot || !a.nothing() {
			t.Errorf("rot.May's error: %s of a full net: %v", c.name, a)
		}
	}
}

func TestOf(t *testing.T) {
	g, r := example()
	bond, about := planarBond(3)
	for _, row := range []struct {
		name string
		g    api.Net
		r    api.Rot
		over api.Net
		with api.Rot
	}{
		{"the example", g, r, of(2, 0, 1, 0, 1, 0, 1), api.Rot{{0, 2, 4}, {1, 5, 3}}},
		{"the example, turned", g, api.Rot{{5, 0}, {2, 1}, {4, 3}}, of(2, 0, 1, 0, 1, 0, 1), api.Rot{{0, 2, 4}, {1, 5, 3}}},
		{"its dual", of(2, 0, 1, 0, 1, 0, 1), api.Rot{{0, 2, 4}, {1, 5, 3}}, of(3, 0, 1, 1, 2, 2, 0), api.Rot{{0, 5}, {1, 2}, {3, 4}}},
		{"a bond", bond, about, of(3, 0, 1, 1, 2, 2, 0), api.Rot{{0, 5}, {1, 2}, {3, 4}}},
		{"a bond of genus 1", bond, rising(bond), of(1, 0, 0, 0, 0, 0, 0), api.Rot{{0, 3, 4, 1, 2, 5}}},
		{"no node", of(0), nil, of(0), nil},
		{"one node", of(1), api.Rot{nil}, of(1), api.Rot{nil}},
		{"nodes alone", of(3), api.Rot{nil, nil, nil}, of(3), api.Rot{nil, nil, nil}},
		{"a bridge", of(2, 0, 1), api.Rot{{0}, {1}}, of(1, 0, 0), api.Rot{{0, 1}}},
		{"a loop", of(1, 0, 0), api.Rot{{0, 1}}, of(2, 0, 1), api.Rot{{0}, {1}}},
		{"a loop beside nodes", of(3, 1, 1), api.Rot{nil, {1, 0}, nil}, of(4, 0, 1), api.Rot{{0}, {1}, nil, nil}},
		{"loops through one another", of(1, 0, 0, 0, 0), api.Rot{{0, 2, 1, 3}}, of(1, 0, 0, 0, 0), api.Rot{{0, 3, 1, 2}}},
		{"two edges apart", of(5, 3, 4, 0, 2), api.Rot{{2}, nil, {3}, {0}, {1}}, of(3, 0, 0, 1, 1), api.Rot{{0, 1}, {2, 3}, nil}},
	} {
		over, with, err := Of(row.g, row.r)
		if err != api.OK || !net.Same(over, row.over) || !equal(with, row.with) {
			t.Errorf("P10.1: %s: %v, %v, %v", row.name, over, with, err)
		}
	}
}

// TestOfLimit: 1,024 faces may be nodes, one more not.
func TestOfLimit(t *testing.T) {
	for _, row := range []struct{ alone, edges, faces int }{{0, 1024, 1024}, {0, 1025, 1025}, {0, 3072, 3072}, {1, 1023, 1024}, {1, 1024, 1025}, {1022, 2, 1024}, {1022, 3, 1025}} {
		g, r := planarBond(row.edges)
		g.N += row.alone
		r = append(r, make(api.Rot, row.alone)...)
		over, with, err := Of(g, r)
		if row.faces > 1024 {
			if err != api.ErrLimit || over.N != 0 || len(over.Edges) != 0 || len(with) != 0 {
				t.Errorf("P10.1: %d faces: %v", row.faces, err)
			}
			continue
		}
		if err != api.OK || over.N != row.faces || len(over.Edges) != row.edges || rot.May(over, with) != api.OK {
			t.Errorf("P10.1: %d faces: %v", row.faces, err)
		}
	}
}

// checkOf holds Of against rot.Faces, and what follows: the genus, the faces that are the nodes, the dual's dual.
func checkOf(t *testing.T, g api.Net, r api.Rot) {
	t.Helper()
	all := faces(t, g, r)
	over, lists, err := Of(g, r)
	if len(all) > 1024 {
		if err != api.ErrLimit {
			t.Fatalf("P10.1: %d faces: %v", len(all), err)
		}
		return
	}
	if err != api.OK || over.N != len(all) || len(over.Edges) != len(g.Edges) || !equal(lists, all) {
		t.Fatalf("P10.1: %v of %v: %v, %v, %v", r, g, over, lists, err)
	}
	on := make([]int, 2*len(g.Edges))
	for f, face := range all {
		for _, h := range face {
			on[h] = f
		}
	}
	for e, ends := range over.Edges {
		if ends != [2]int{on[2*e], on[2*e+1]} {
			t.Fatalf("P10.1: %v of %v: the edge %d is %v", r, g, e, ends)
		}
	}
	if genus(t, g, r) != genus(t, over, lists) || !equal(lists, canon(lists)) {
		t.Fatalf("P10.1, what follows: %v of %v: another genus, or not Canon: %v", r, g, lists)
	}
	checkBack(t, g, r, over, lists)
}

// checkBack: the dual's faces are the lists of the nodes that are not isolated, and its dual is the net with these names.
func checkBack(t *testing.T, g api.Net, r api.Rot, over api.Net, lists api.Rot) {
	t.Helper()
	back := faces(t, over, lists)
	name := make([]int, g.N)
	rest := 0
	for v, list := range canon(r) {
		if len(list) == 0 {
			rest++
			continue
		}
		name[v] = slices.IndexFunc(back, func(face []int) bool { return slices.Equal(face, list) })
		if name[v] < 0 {
			t.Fatalf("what follows: %v of %v: the list %v is no face of %v", r, g, list, back)
		}
	}
	again, _, err := Of(over, lists)
	if err != api.OK || again.N != len(back) || len(again.Edges) != len(g.Edges) {
		t.Fatalf("what follows: the dual's dual: %v, %v", again, err)
	}
	if len(g.Edges) > 0 && slices.Max(name) >= g.N-rest {
		t.Fatalf("what follows: %d names of %d nodes", slices.Max(name), g.N)
	}
	for e, ends := range g.Edges {
		if again.Edges[e] != [2]int{name[ends[0]], name[ends[1]]} {
			t.Fatalf("what follows: the dual's dual of %v: %v", g, again)
		}
	}
}

func TestOfMany(t *testing.T) {
	r := rand.New(rand.NewSource(111))
	for range 2000 {
		g := some(r, 7, 10)
		checkOf(t, g, shuffled(r, g))
	}
	for _, g := range great(t) {
		checkOf(t, g, rising(g))
		checkOf(t, g, shuffled(r, g))
	}
	checkOf(t, api.Net{}, nil)
	g, x := squares(32)
	checkOf(t, g, x)
}

func TestFace(t *testing.T) {
	g, r := example()
	loops, round := of(1, 0, 0, 0, 0), api.Rot{{0, 1, 2, 3}} // faces 0 2, then 1, then 3
	apart, alone := of(5, 3, 3), api.Rot{nil, nil, nil, {1, 0}, nil}
	for _, row := range []struct {
		name string
		g    api.Net
		r    api.Rot
		c    api.Corner
		face int
		err  api.Errno
	}{
		{"the example", g, r, corner(0, 0), 1, api.OK},
		{"the example", g, r, corner(0, 5), 0, api.OK},
		{"the example", g, r, corner(1, 2), 1, api.OK},
		{"the example", g, r, corner(1, 1), 0, api.OK},
		{"a half-edge of another node", g, r, corner(0, 1), 0, api.ErrBounds},
		{"not isolated", g, r, corner(0, -1), 0, api.ErrBounds},
		{"no such half-edge", g, r, corner(0, 6), 0, api.ErrBounds},
		{"no such node", g, r, corner(3, -1), 0, api.ErrBounds},
		{"no such node, a half-edge", g, r, corner(3, 0), 0, api.ErrBounds},
		{"a node below 0", g, r, corner(-1, -1), 0, api.ErrBounds},
		{"loops", loops, round, corner(0, 0), 1, api.OK},
		{"loops", loops, round, corner(0, 1), 0, api.OK},
		{"loops", loops, round, corner(0, 2), 2, api.OK},
		{"loops, round", loops, round, corner(0, 3), 0, api.OK},
		{"an edge", of(2, 0, 1), api.Rot{{0}, {1}}, corner(1, 1), 0, api.OK},
		{"the first alone", apart, alone, corner(0, -1), 2, api.OK},
		{"the second alone", apart, alone, corner(1, -1), 3, api.OK},
		{"the last alone", apart, alone, corner(4, -1), 5, api.OK},
		{"one alone, a half-edge", apart, alone, corner(4, 0), 0, api.ErrBounds},
		{"one alone, below -1", apart, alone, corner(4, -2), 0, api.ErrBounds},
		{"one node", of(1), api.Rot{nil}, corner(0, -1), 0, api.OK},
		{"one node, a half-edge", of(1), api.Rot{nil}, corner(0, 0), 0, api.ErrBounds},
		{"no node", of(0), nil, corner(0, -1), 0, api.ErrBounds},
		{"no node, below 0", of(0), nil, corner(-1, -1), 0, api.ErrBounds},
	} {
		if face, err := Face(row.g, row.r, row.c); face != row.face || err != row.err {
			t.Errorf("P10.2: %s, %v: %d, %v", row.name, row.c, face, err)
		}
	}
	for _, x := range strange() {
		for _, c := range []api.Corner{corner(x, 0), corner(0, x), corner(x, x), corner(x, -1)} {
			if face, err := Face(g, r, c); face != 0 || err != api.ErrBounds {
				t.Errorf("P10.2: %v: %d, %v", c, face, err)
			}
		}
	}
}

// wantedFace is a corner's face, sought in rot.Faces.
func wantedFace(g api.Net, r api.Rot, all [][]int, c api.Corner) int {
	list := r[c.Node]
	if len(list) > 0 {
		h := list[(slices.Index(list, c.After)+1)%len(list)]
		return slices.IndexFunc(all, func(face []int) bool { return slices.Contains(face, h) })
	}
	empty := len(all)
	for v := g.N - 1; v >= c.Node; v-- {
		if len(r[v]) == 0 {
			empty--
		}
	}
	return empty
}

func TestFaceMany(t *testing.T) {
	r := rand.New(rand.NewSource(112))
	for range 1000 {
		g := some(r, 7, 10)
		x := shuffled(r, g)
		all := faces(t, g, x)
		is := corners(x)
		for _, c := range is {
			if face, err := Face(g, x, c); err != api.OK || face != wantedFace(g, x, all, c) {
				t.Fatalf("P10.2: %v of %v, %v: %d, %v", x, g, c, face, err)
			}
		}
		for v := -2; v < g.N+2; v++ {
			for h := -2; h < 2*len(g.Edges)+2; h++ {
				_, err := Face(g, x, corner(v, h))
				if (err == api.OK) != slices.Contains(is, corner(v, h)) || err != api.OK && err != api.ErrBounds {
					t.Fatalf("P10.2: %v of %v, %d, %d: %v", x, g, v, h, err)
				}
			}
		}
	}
	for _, g := range great(t) {
		x := shuffled(r, g)
		all, is := faces(t, g, x), corners(x)
		for range 20 {
			c := is[r.Intn(len(is))]
			if face, err := Face(g, x, c); err != api.OK || face != wantedFace(g, x, all, c) {
				t.Fatalf("P10.2: %d nodes, %d edges, %v: %d, %v", g.N, len(g.Edges), c, face, err)
			}
		}
	}
}
