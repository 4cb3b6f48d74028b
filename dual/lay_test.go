package dual

import (
	"math/rand"
	"slices"
	"testing"

	"tracery/api"
	"tracery/net"
	"tracery/rot"
	"tracery/walk"
)

func TestLay(t *testing.T) {
	g, r := example()
	two := api.Rot{nil, nil}
	loops, round := of(1, 0, 0, 0, 0), api.Rot{{0, 1, 2, 3}}
	torus, odd := of(1, 0, 0, 0, 0), api.Rot{{0, 2, 1, 3}}
	for _, row := range []struct {
		name string
		g    api.Net
		r    api.Rot
		a, b api.Corner
		more api.Net
		laid api.Rot
		err  api.Errno
	}{
		{"the example", g, r, corner(0, 0), corner(1, 2), of(3, 0, 1, 1, 2, 2, 0, 0, 1), api.Rot{{0, 6, 5}, {1, 2, 7}, {3, 4}}, api.OK},
		{"the other face", g, r, corner(0, 5), corner(1, 1), of(3, 0, 1, 1, 2, 2, 0, 0, 1), api.Rot{{0, 5, 6}, {1, 7, 2}, {3, 4}}, api.OK},
		{"back", g, r, corner(1, 1), corner(0, 5), of(3, 0, 1, 1, 2, 2, 0, 1, 0), api.Rot{{0, 5, 7}, {1, 6, 2}, {3, 4}}, api.OK},
		{"a loop within a face", g, r, corner(0, 0), corner(0, 0), of(3, 0, 1, 1, 2, 2, 0, 0, 0), api.Rot{{0, 6, 7, 5}, {1, 2}, {3, 4}}, api.OK},
		{"two faces", g, r, corner(0, 0), corner(1, 1), api.Net{}, nil, api.ErrGenus},
		{"two faces of a node", g, r, corner(0, 0), corner(0, 5), api.Net{}, nil, api.ErrGenus},
		{"no such a", g, r, corner(3, -1), corner(0, 0), api.Net{}, nil, api.ErrBounds},
		{"no such b", g, r, corner(0, 0), corner(0, -1), api.Net{}, nil, api.ErrBounds},
		{"no such b, two faces", g, r, corner(0, 0), corner(1, 5), api.Net{}, nil, api.ErrBounds},
		{"neither", g, r, corner(0, 1), corner(1, 5), api.Net{}, nil, api.ErrBounds},
		{"two nodes alone", of(2), two, corner(1, -1), corner(0, -1), of(2, 1, 0), api.Rot{{1}, {0}}, api.OK},
		{"one node alone", of(2), two, corner(1, -1), corner(1, -1), of(2, 1, 1), api.Rot{nil, {0, 1}}, api.OK},
		{"one node", of(1), api.Rot{nil}, corner(0, -1), corner(0, -1), of(1, 0, 0), api.Rot{{0, 1}}, api.OK},
		{"no node", of(0), nil, corner(0, -1), corner(0, -1), api.Net{}, nil, api.ErrBounds},
		{"to a node alone", of(3, 0, 1), api.Rot{{0}, {1}, nil}, corner(1, 1), corner(2, -1), of(3, 0, 1, 1, 2), api.Rot{{0}, {1, 2}, {3}}, api.OK},
		{"from a node alone", of(3, 0, 1), api.Rot{{0}, {1}, nil}, corner(2, -1), corner(0, 0), of(3, 0, 1, 2, 0), api.Rot{{0, 3}, {1}, {2}}, api.OK},
		{"one face of a node", loops, round, corner(0, 1), corner(0, 3), of(1, 0, 0, 0, 0, 0, 0), api.Rot{{0, 1, 4, 2, 3, 5}}, api.OK},
		{"one face of a node, back", loops, round, corner(0, 3), corner(0, 1), of(1, 0, 0, 0, 0, 0, 0), api.Rot{{0, 1, 5, 2, 3, 4}}, api.OK},
		{"within a loop", loops, round, corner(0, 0), corner(0, 0), of(1, 0, 0, 0, 0, 0, 0), api.Rot{{0, 4, 5, 1, 2, 3}}, api.OK},
		{"from loop to loop", loops, round, corner(0, 0), corner(0, 2), api.Net{}, nil, api.ErrGenus},
		{"not planar", torus, odd, corner(0, 0), corner(0, 1), of(1, 0, 0, 0, 0, 0, 0), api.Rot{{0, 4, 2, 1, 5, 3}}, api.OK},
		{"two components", of(2, 0, 0, 1, 1), api.Rot{{0, 1}, {3, 2}}, corner(0, 0), corner(1, 3), of(2, 0, 0, 1, 1, 0, 1), api.Rot{{0, 4, 1}, {2, 3, 5}}, api.OK},
	} {
		more, laid, err := Lay(row.g, row.r, row.a, row.b)
		if err != row.err || !net.Same(more, row.more) || !equal(laid, row.laid) {
			t.Errorf("P10.3: %s: %v, %v, %v", row.name, more, laid, err)
		}
	}
	for _, x := range strange() {
		for _, c := range []api.Corner{corner(x, 0), corner(0, x), corner(x, x), corner(x, -1)} {
			_, _, one := Lay(g, r, c, corner(0, 0))
			_, _, two := Lay(g, r, corner(0, 0), c)
			if _, _, both := Lay(g, r, c, c); one != api.ErrBounds || two != api.ErrBounds || both != api.ErrBounds {
				t.Errorf("P10.3: %v: %v, %v, %v", c, one, two, both)
			}
		}
	}
}

// TestLayLimit: 3,072 edges may be, one more not; ErrBounds ahead of ErrLimit, and that ahead of ErrGenus.
func TestLayLimit(t *testing.T) {
	g, r := planarBond(3071)
	more, laid, err := Lay(g, r, corner(0, 0), corner(1, 3))
	if err != api.OK || len(more.Edges) != 3072 || genus(t, more, laid) != 0 || len(faces(t, more, laid)) != 3072 {
		t.Errorf("P10.3: the last edge that may be: %v", err)
	}
	if _, _, err := Lay(g, r, corner(0, 0), corner(1, 9)); err != api.ErrGenus {
		t.Errorf("P10.3: two faces: %v", err)
	}
	g, r = planarBond(3072)
	for _, row := range []struct {
		a, b api.Corner
		err  api.Errno
	}{
		{corner(0, 0), corner(1, 3), api.ErrLimit}, {corner(0, 0), corner(0, 0), api.ErrLimit}, {corner(0, 0), corner(1, 9), api.ErrLimit},
		{corner(0, 1), corner(1, 3), api.ErrBounds}, {corner(0, 0), corner(1, 2), api.ErrBounds}, {corner(2, -1), corner(0, 0), api.ErrBounds},
	} {
		more, laid, err := Lay(g, r, row.a, row.b)
		if err != row.err || more.N != 0 || len(more.Edges) != 0 || len(laid) != 0 {
			t.Errorf("P10.3: a full net, %v, %v: %v", row.a, row.b, err)
		}
	}
}

// wantedLay is r with the half-edge h at a and its twin at b, by the chapter's words.
func wantedLay(r api.Rot, a, b api.Corner, h int) api.Rot {
	lists := make(api.Rot, len(r))
	put := func(v, after int) {
		switch {
		case a == b && a == corner(v, after):
			lists[v] = append(lists[v], h, h+1)
		case a == corner(v, after):
			lists[v] = append(lists[v], h)
		case b == corner(v, after):
			lists[v] = append(lists[v], h+1)
		}
	}
	for v, list := range r {
		if len(list) == 0 {
			put(v, -1)
		}
		for _, x := range list {
			lists[v] = append(lists[v], x)
			put(v, x)
		}
	}
	return canon(lists)
}

// checkLay holds one call against the chapter's words, and takes what was laid; it answers the error.
func checkLay(t *testing.T, g api.Net, x api.Rot, a, b api.Corner) api.Errno {
	t.Helper()
	all, part := faces(t, g, x), parts(g)
	one, two := wantedFace(g, x, all, a), wantedFace(g, x, all, b)
	more, laid, err := Lay(g, x, a, b)
	want, change := api.OK, 1
	switch {
	case len(g.Edges) == 3072:
		want = api.ErrLimit
	case part[a.Node] != part[b.Node]:
		change = -1
	case one != two:
		want = api.ErrGenus
	}
	if err != want {
		t.Fatalf("P10.3: %v of %v, %v, %v: %v, want %v", x, g, a, b, err, want)
	}
	if err != api.OK {
		return err
	}
	edges := append(slices.Clone(g.Edges), [2]int{a.Node, b.Node})
	if more.N != g.N || !slices.Equal(more.Edges, edges) || !equal(laid, wantedLay(x, a, b, 2*len(g.Edges))) {
		t.Fatalf("P10.3: %v of %v, %v, %v: %v, %v", x, g, a, b, more, laid)
	}
	if genus(t, more, laid) != genus(t, g, x) || len(faces(t, more, laid)) != len(all)+change {
		t.Fatalf("what follows: %v of %v, %v, %v: %v, %v", x, g, a, b, more, laid)
	}
	was, home, err := Take(more, laid, len(g.Edges))
	if err != api.OK || !net.Same(was, g) || !equal(home, canon(x)) {
		t.Fatalf("what follows: laid and taken: %v, %v, %v", was, home, err)
	}
	return api.OK
}

func parts(g api.Net) []int {
	part, _, _ := walk.Parts(g)
	return part
}

func TestLayMany(t *testing.T) {
	r := rand.New(rand.NewSource(113))
	laid, refused := 0, 0
	for range 400 {
		g := some(r, 5, 6)
		x := shuffled(r, g)
		for _, a := range corners(x) {
			for _, b := range corners(x) {
				if checkLay(t, g, x, a, b) == api.OK {
					laid++
				} else {
					refused++
				}
			}
		}
	}
	if laid < 1000 || refused < 1000 {
		t.Errorf("the nets are ill chosen: %d laid, %d refused", laid, refused)
	}
	for _, g := range great(t) {
		x := shuffled(r, g)
		is := corners(x)
		for range 10 {
			checkLay(t, g, x, is[r.Intn(len(is))], is[r.Intn(len(is))])
		}
		checkLay(t, g, x, is[0], is[0])
	}
}

// TestLayOn: edges laid one behind the other, from no edge on, stay planar, and taken back they are what was.
func TestLayOn(t *testing.T) {
	r := rand.New(rand.NewSource(114))
	g, x := of(8), make(api.Rot, 8)
	var nets []api.Net
	var rots []api.Rot
	for len(nets) < 60 {
		is := corners(x)
		more, laid, err := Lay(g, x, is[r.Intn(len(is))], is[r.Intn(len(is))])
		if err == api.ErrGenus {
			continue
		}
		if err != api.OK || genus(t, more, laid) != 0 {
			t.Fatalf("P10.3: %v of %v: %v", laid, more, err)
		}
		nets, rots = append(nets, g), append(rots, x)
		g, x = more, laid
	}
	for i := len(nets) - 1; i >= 0; i-- {
		less, left, err := Take(g, x, len(g.Edges)-1)
		if err != api.OK || !net.Same(less, nets[i]) || !equal(left, rots[i]) {
			t.Fatalf("what follows: %d edges taken: %v, %v, %v", len(nets)-i, less, left, err)
		}
		g, x = less, left
	}
}

func TestTake(t *testing.T) {
	g, r := example()
	loop, round := of(2, 0, 1, 1, 1, 1, 0), api.Rot{{5, 0}, {4, 3, 1, 2}}
	for _, row := range []struct {
		name string
		g    api.Net
		r    api.Rot
		e    int
		less api.Net
		left api.Rot
		err  api.Errno
	}{
		{"the first", g, r, 0, of(3, 1, 2, 2, 0), api.Rot{{3}, {0}, {1, 2}}, api.OK},
		{"the last", g, r, 2, of(3, 0, 1, 1, 2), api.Rot{{0}, {1, 2}, {3}}, api.OK},
		{"a loop", loop, round, 1, of(2, 0, 1, 1, 0), api.Rot{{0, 3}, {1, 2}}, api.OK},
		{"beside a loop", loop, round, 0, of(2, 1, 1, 1, 0), api.Rot{{3}, {0, 2, 1}}, api.OK},
		{"the only one", of(2, 1, 0), api.Rot{{1}, {0}}, 0, of(2), api.Rot{nil, nil}, api.OK},
		{"the only loop", of(1, 0, 0), api.Rot{{1, 0}}, 0, of(1), api.Rot{nil}, api.OK},
		{"none of that number", g, r, 3, api.Net{}, nil, api.ErrBounds},
		{"no edge", of(1), api.Rot{nil}, 0, api.Net{}, nil, api.ErrBounds},
		{"no node", of(0), nil, 0, api.Net{}, nil, api.ErrBounds},
	} {
		less, left, err := Take(row.g, row.r, row.e)
		if err != row.err || !net.Same(less, row.less) || !equal(left, row.left) {
			t.Errorf("P10.4: Take, %s: %v, %v, %v", row.name, less, left, err)
		}
	}
	for _, e := range strange() {
		if less, left, err := Take(g, r, e); err != api.ErrBounds || less.N != 0 || len(less.Edges) != 0 || len(left) != 0 {
			t.Errorf("P10.4: Take of %d: %v", e, err)
		}
	}
}

// checkTake: the lists without both half-edges, those of greater edges two less; no greater genus.
func checkTake(t *testing.T, g api.Net, x api.Rot, e int) {
	t.Helper()
	less, left, err := Take(g, x, e)
	if err != api.OK || less.N != g.N || !slices.Equal(less.Edges, slices.Delete(slices.Clone(g.Edges), e, e+1)) {
		t.Fatalf("P10.4: Take %d of %v: %v, %v", e, g, less, err)
	}
	want := make(api.Rot, len(x))
	for v, list := range x {
		for _, h := range list {
			if h/2 < e {
				want[v] = append(want[v], h)
			} else if h/2 > e {
				want[v] = append(want[v], h-2)
			}
		}
	}
	if !equal(left, canon(want)) || genus(t, less, left) > genus(t, g, x) {
		t.Fatalf("P10.4: Take %d of %v: %v, want %v", e, x, left, want)
	}
}

func TestSplit(t *testing.T) {
	g, r := example()
	for _, row := range []struct {
		name string
		g    api.Net
		r    api.Rot
		e    int
		cut  api.Net
		with api.Rot
		err  api.Errno
	}{
		{"the first", g, r, 0, of(4, 0, 3, 1, 2, 2, 0, 3, 1), api.Rot{{0, 5}, {2, 7}, {3, 4}, {1, 6}}, api.OK},
		{"the last", g, r, 2, of(4, 0, 1, 1, 2, 2, 3, 3, 0), api.Rot{{0, 7}, {1, 2}, {3, 4}, {5, 6}}, api.OK},
		{"an edge", of(2, 1, 0), api.Rot{{1}, {0}}, 0, of(3, 1, 2, 2, 0), api.Rot{{3}, {0}, {1, 2}}, api.OK},
		{"a loop", of(1, 0, 0), api.Rot{{1, 0}}, 0, of(2, 0, 1, 1, 0), api.Rot{{0, 3}, {1, 2}}, api.OK},
		{"loops through one another", of(1, 0, 0, 0, 0), api.Rot{{0, 2, 1, 3}}, 0, of(2, 0, 1, 0, 0, 1, 0), api.Rot{{0, 2, 5, 3}, {1, 4}}, api.OK},
		{"none of that number", g, r, 3, api.Net{}, nil, api.ErrBounds},
		{"no edge", of(1), api.Rot{nil}, 0, api.Net{}, nil, api.ErrBounds},
		{"no node", of(0), nil, 0, api.Net{}, nil, api.ErrBounds},
	} {
		cut, with, err := Split(row.g, row.r, row.e)
		if err != row.err || !net.Same(cut, row.cut) || !equal(with, row.with) {
			t.Errorf("P10.4: Split, %s: %v, %v, %v", row.name, cut, with, err)
		}
	}
	for _, e := range strange() {
		if cut, with, err := Split(g, r, e); err != api.ErrBounds || cut.N != 0 || len(cut.Edges) != 0 || len(with) != 0 {
			t.Errorf("P10.4: Split of %d: %v", e, err)
		}
	}
}

// TestSplitLimit: neither a node nor an edge too many; ErrBounds ahead of it.
func TestSplitLimit(t *testing.T) {
	for _, row := range []struct {
		n, m int
		e    int
		err  api.Errno
	}{
		{1023, 3071, 0, api.OK}, {1024, 3071, 0, api.ErrLimit}, {1023, 3072, 3071, api.ErrLimit}, {1024, 1, 0, api.ErrLimit}, {1, 3072, 7, api.ErrLimit},
		{1024, 1, 1, api.ErrBounds}, {1024, 3072, -1, api.ErrBounds}, {1024, 3072, 3072, api.ErrBounds}, {1024, 0, 0, api.ErrBounds},
	} {
		g := api.Net{N: row.n, Edges: make([][2]int, row.m)}
		cut, with, err := Split(g, rising(g), row.e)
		if err != row.err || err != api.OK && (cut.N != 0 || len(cut.Edges) != 0 || len(with) != 0) {
			t.Errorf("P10.4: Split at the limits, %v: %v", row, err)
		}
	}
}

// checkSplit: net.Split, and the faces as they were with the edge's two parts for it.
func checkSplit(t *testing.T, g api.Net, x api.Rot, e int) {
	t.Helper()
	cut, with, err := Split(g, x, e)
	want, other := net.Split(g, e)
	if err != other || !net.Same(cut, want) {
		t.Fatalf("P10.4: Split %d of %v: %v, %v", e, g, cut, err)
	}
	if err != api.OK {
		return
	}
	back, on := 2*e+1, 2*len(g.Edges)
	lists := append(deep(x), nums(back, on))
	for v, list := range x {
		if i := slices.Index(list, back); i >= 0 {
			lists[v][i] = on + 1
		}
	}
	if !equal(with, canon(lists)) || genus(t, cut, with) != genus(t, g, x) {
		t.Fatalf("P10.4: Split %d of %v: %v, want %v", e, x, with, lists)
	}
	var longer [][]int
	for _, face := range faces(t, g, x) {
		var list []int
		for _, h := range face {
			switch h {
			case 2 * e:
				list = append(list, h, on)
			case back:
				list = append(list, on+1, h)
			default:
				list = append(list, h)
			}
		}
		longer = append(longer, list)
	}
	got := canon(faces(t, cut, with))
	if !equal(sortedLists(got), sortedLists(canon(longer))) {
		t.Fatalf("what follows: Split %d of %v has the faces %v", e, x, got)
	}
}

// sortedLists are the lists in their order.
func sortedLists(lists [][]int) [][]int {
	slices.SortFunc(lists, func(a, b []int) int { return slices.Compare(a, b) })
	return lists
}

func TestTakeAndSplitMany(t *testing.T) {
	r := rand.New(rand.NewSource(115))
	for range 1000 {
		g := some(r, 6, 9)
		x := shuffled(r, g)
		for e := range g.Edges {
			checkTake(t, g, x, e)
			checkSplit(t, g, x, e)
		}
	}
	for _, g := range great(t) {
		x := shuffled(r, g)
		if len(g.Edges) == 0 {
			continue
		}
		for _, e := range nums(0, r.Intn(len(g.Edges)), len(g.Edges)-1) {
			checkTake(t, g, x, e)
			checkSplit(t, g, x, e)
		}
	}
}

// TestSplitThenSeen: each edge of a net split stays a rotation with as many faces, whatever was split ahead.
func TestSplitThenSeen(t *testing.T) {
	g, x := squares(5)
	count := len(faces(t, g, x))
	for e := range len(g.Edges) {
		cut, with, err := Split(g, x, e)
		if err != api.OK || rot.May(cut, with) != api.OK || len(faces(t, cut, with)) != count {
			t.Fatalf("P10.4: Split %d: %v", e, err)
		}
		g, x = cut, with
	}
	if genus(t, g, x) != 0 {
		t.Error("P10.4: Split has changed the genus")
	}
}
