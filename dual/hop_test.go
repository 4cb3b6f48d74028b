package dual

import (
	"math/rand"
	"slices"
	"testing"

	"tracery/api"
)

func TestHop(t *testing.T) {
	g, r := example()
	bond, about := planarBond(6) // faces round: the edge e is between the faces e and e + 1
	apart, two := of(3, 0, 0, 1, 1), api.Rot{{0, 1}, {2, 3}, nil}
	for _, row := range []struct {
		name     string
		g        api.Net
		r        api.Rot
		from, to int
		over     []int
		err      api.Errno
	}{
		{"the example", g, r, 0, 1, nums(0), api.OK},
		{"the example", g, r, 0, 0, nil, api.OK},
		{"back", g, r, 1, 0, nums(0), api.OK},
		{"no such face", g, r, 0, 2, nil, api.ErrBounds},
		{"no such face ahead", g, r, 2, 0, nil, api.ErrBounds},
		{"no such face twice", g, r, 2, 2, nil, api.ErrBounds},
		{"below 0", g, r, -1, 0, nil, api.ErrBounds},
		{"below 0 twice", g, r, -1, -1, nil, api.ErrBounds},
		{"round, one way", bond, about, 0, 2, nums(0, 1), api.OK},
		{"round, the other way", bond, about, 1, 5, nums(0, 5), api.OK},
		{"round, either way", bond, about, 0, 3, nums(0, 1, 2), api.OK},
		{"round, either way, back", bond, about, 3, 0, nums(2, 1, 0), api.OK},
		{"round, over the first", bond, about, 2, 5, nums(1, 0, 5), api.OK},
		{"out of a loop", apart, two, 0, 1, nums(0), api.OK},
		{"another component", apart, two, 0, 2, nil, api.ErrNone},
		{"to a node alone", apart, two, 1, 4, nil, api.ErrNone},
		{"from a node alone", apart, two, 4, 0, nil, api.ErrNone},
		{"a node alone", apart, two, 4, 4, nil, api.OK},
		{"beside the last", apart, two, 4, 5, nil, api.ErrBounds},
		{"another component, then no face", apart, two, 0, 5, nil, api.ErrBounds},
		{"two nodes alone", of(2), api.Rot{nil, nil}, 0, 1, nil, api.ErrNone},
		{"a bridge", of(2, 0, 1), api.Rot{{0}, {1}}, 0, 0, nil, api.OK},
		{"no face", of(0), nil, 0, 0, nil, api.ErrBounds},
	} {
		over, err := Hop(row.g, row.r, row.from, row.to)
		if err != row.err || !slices.Equal(over, row.over) {
			t.Errorf("P10.5: %s, %d to %d: %v, %v", row.name, row.from, row.to, over, err)
		}
	}
	for _, x := range strange() {
		for _, pair := range [][2]int{{x, 0}, {0, x}, {x, x}} {
			if over, err := Hop(g, r, pair[0], pair[1]); len(over) > 0 || err != api.ErrBounds {
				t.Errorf("P10.5: %v: %v, %v", pair, over, err)
			}
		}
	}
}

// allWays are all ways between two faces across edges, no face twice, as lists of edges.
func allWays(all [][]int, on []int, at, to int, been map[int]int, ahead []int, each func(way []int)) {
	if at == to {
		each(ahead)
		return
	}
	been[at] = 1
	for _, h := range all[at] {
		if been[on[h^1]] == 0 {
			allWays(all, on, on[h^1], to, been, append(slices.Clone(ahead), h/2), each)
		}
	}
	been[at] = 0
}

// firstWay is the shortest of all ways, of these the first in the order of lists.
func firstWay(all [][]int, on []int, from, to int) ([]int, bool) {
	var best []int
	found := false
	allWays(all, on, from, to, map[int]int{}, nil, func(way []int) {
		if !found || len(way) < len(best) || len(way) == len(best) && slices.Compare(way, best) < 0 {
			best, found = way, true
		}
	})
	return best, found
}

// onFaces: of each half-edge its face.
func onFaces(all [][]int, count int) []int {
	on := make([]int, count)
	for f, face := range all {
		for _, h := range face {
			on[h] = f
		}
	}
	return on
}

// checkHops holds Hop between each two faces against all ways; it answers how many were longer than one edge.
func checkHops(t *testing.T, g api.Net, x api.Rot) int {
	t.Helper()
	all := faces(t, g, x)
	on := onFaces(all, 2*len(g.Edges))
	long := 0
	for from := range all {
		for to := range all {
			want, found := firstWay(all, on, from, to)
			over, err := Hop(g, x, from, to)
			if found && (err != api.OK || !slices.Equal(over, want)) || !found && (err != api.ErrNone || len(over) > 0) {
				t.Fatalf("P10.5: %v of %v, %d to %d: %v, %v, want %v", x, g, from, to, over, err, want)
			}
			if len(over) > 1 {
				long++
			}
		}
	}
	return long
}

// drawnPlanar is a planar rotation of a connected net, of edges laid at any corners, its edges then in any order.
func drawnPlanar(t *testing.T, r *rand.Rand, n, m int) (api.Net, api.Rot) {
	t.Helper()
	g, x := of(n), make(api.Rot, n)
	for len(g.Edges) < m {
		is := corners(x)
		if more, laid, err := Lay(g, x, is[r.Intn(len(is))], is[r.Intn(len(is))]); err == api.OK {
			g, x = more, laid
		}
	}
	order := r.Perm(m)
	other := api.Net{N: n, Edges: make([][2]int, m)}
	for e, ends := range g.Edges {
		other.Edges[order[e]] = ends
	}
	for _, list := range x {
		for i, h := range list {
			list[i] = 2*order[h/2] + h%2
		}
	}
	return other, x
}

func TestHopMany(t *testing.T) {
	r := rand.New(rand.NewSource(116))
	long := 0
	for range 1000 {
		g := some(r, 5, 7)
		long += checkHops(t, g, shuffled(r, g))
	}
	for range 150 {
		g, x := drawnPlanar(t, r, 1+r.Intn(5), r.Intn(11))
		long += checkHops(t, g, x)
	}
	if long < 2000 {
		t.Errorf("the nets are ill chosen: %d ways of more than one edge", long)
	}
}

// distancesTo: how far each face is from to, by looking at all edges again and again.
func distancesTo(on []int, count, to int) []int {
	far := slices.Repeat([]int{count}, count)
	far[to] = 0
	for changed := true; changed; {
		changed = false
		for h := range on {
			if a, b := on[h], on[h^1]; far[a]+1 < far[b] {
				far[b], changed = far[a]+1, true
			}
		}
	}
	return far
}

// checkHop: on great nets a way is looked at step by step: each comes nearer by the least edge that does.
func checkHop(t *testing.T, g api.Net, x api.Rot, from, to int) {
	t.Helper()
	all := faces(t, g, x)
	on := onFaces(all, 2*len(g.Edges))
	far := distancesTo(on, len(all), to)
	over, err := Hop(g, x, from, to)
	if far[from] == len(all) {
		if err != api.ErrNone || len(over) > 0 {
			t.Fatalf("P10.5: %d nodes, %d edges, no way: %v, %v", g.N, len(g.Edges), over, err)
		}
		return
	}
	if err != api.OK || len(over) != far[from] {
		t.Fatalf("P10.5: %d nodes, %d edges: %d edges of %d, %v", g.N, len(g.Edges), len(over), far[from], err)
	}
	at := from
	for _, e := range over {
		least, next := len(g.Edges), -1
		for h := range on {
			if on[h] == at && far[on[h^1]] == far[at]-1 && h/2 < least {
				least, next = h/2, on[h^1]
			}
		}
		if e != least {
			t.Fatalf("P10.5: %d nodes, %d edges: the edge %d, not %d", g.N, len(g.Edges), e, least)
		}
		at = next
	}
	if at != to {
		t.Fatalf("P10.5: the way ends at %d, not %d", at, to)
	}
}

// TestHopGreat: great nets, also where there are more faces than nodes may be.
func TestHopGreat(t *testing.T) {
	r := rand.New(rand.NewSource(117))
	for _, g := range great(t) {
		for _, x := range []api.Rot{rising(g), shuffled(r, g)} {
			count := len(faces(t, g, x))
			checkHop(t, g, x, 0, count-1)
			checkHop(t, g, x, r.Intn(count), r.Intn(count))
			checkHop(t, g, x, r.Intn(count), 0)
		}
	}
	g, x := planarBond(3072)
	for _, pair := range [][2]int{{0, 1536}, {3071, 1535}, {1, 3071}, {5, 1000}, {2000, 2000}} {
		checkHop(t, g, x, pair[0], pair[1])
	}
	g, x = squares(32)
	for range 10 {
		checkHop(t, g, x, r.Intn(962), r.Intn(962))
	}
}
