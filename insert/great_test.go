package insert

import (
	"math/rand"
	"slices"
	"testing"

	"tracery/api"
	"tracery/maker"
	"tracery/planar"
	"tracery/rot"
)

// farFrom is how many edges each face is from those at a node, found by going over all edges until nothing gets nearer.
func farFrom(g api.Net, face []int, goal set) []int {
	const never = 1 << 20
	far := slices.Repeat([]int{never}, 2*len(g.Edges)+1)
	for f := range goal {
		far[f] = 0
	}
	for changed := true; changed; {
		changed = false
		for h := range face {
			if beyond := far[face[h^1]] + 1; beyond < far[face[h]] {
				far[face[h]], changed = beyond, true
			}
		}
	}
	return far
}

// firstByFar is the first of the shortest lists of edges: at each place the least edge from which the way can be ended in time.
func firstByFar(g api.Net, x api.Rot, u, v int) []int {
	face := faceOf(g, x)
	far := farFrom(g, face, at(face, x[v]))
	in := at(face, x[u])
	left := len(g.Edges)
	for f := range in {
		left = min(left, far[f])
	}
	var list []int
	for ; left > 0; left-- {
		for e := range g.Edges {
			next := in.over(face, e)
			for f := range next {
				if far[f] != left-1 {
					delete(next, f)
				}
			}
			if len(next) > 0 {
				list, in = append(list, e), next
				break
			}
		}
	}
	return list
}

// checkGreat holds the route between two nodes against distances, and what Cross makes of it against the words.
func checkGreat(t *testing.T, g api.Net, x api.Rot, u, v int) int {
	t.Helper()
	want := firstByFar(g, x, u, v)
	route, err := Route(g, x, u, v)
	if !slices.Equal(route, want) || err != api.OK {
		t.Fatalf("P19.1: Route of %v from %d to %d: %v, %v, not %v", told(g), u, v, route, err, want)
	}
	if n, err := Cost(g, x, u, v); n != len(want) || err != api.OK {
		t.Fatalf("P19.1: Cost of %v from %d to %d: %d, %v, not %d", told(g), u, v, n, err, len(want))
	}
	checkCross(t, g, x, u, v)
	return len(want)
}

// TestAgainstTried: the distances by which great nets are judged tell the same as all ways tried.
func TestAgainstTried(t *testing.T) {
	t.Parallel()
	r := rand.New(rand.NewSource(406))
	for i := range 200 {
		g, x := grown(t, r, 2+i%7, r.Intn(14))
		part := parts(g)
		for u := range g.N {
			for v := range g.N {
				if u != v && part[u] == part[v] && !slices.Equal(firstByFar(g, x, u, v), triedFirst(g, x, u, v)) {
					t.Fatalf("%v, %v from %d to %d: %v, not %v", g, x, u, v, firstByFar(g, x, u, v), triedFirst(g, x, u, v))
				}
			}
		}
	}
}

type great struct {
	name string
	g    api.Net
	x    api.Rot
	long int // a route over at least so many edges is met
}

// greats are nets as great as they may be, or nearly.
func greats(t *testing.T) []great {
	t.Helper()
	var list []great
	must := made(t)
	found := func(name string, long int, g api.Net) {
		x, err := planar.Embed(g)
		if err != api.OK {
			t.Fatalf("%s: no rotation: %v", name, err)
		}
		list = append(list, great{name, g, x, long})
	}
	drawn := func(name string, long int, g api.Net, x api.Rot) { list = append(list, great{name, g, x, long}) }
	found("a path", 0, must(maker.Path(1024)))
	found("a cycle", 0, must(maker.Cycle(1024)))
	found("a grid", 3, must(maker.Grid(32, 32)))
	found("a wheel", 0, must(maker.Wheel(1023)))
	found("a prism", 1, must(maker.Prism(512)))
	found("triangles", 3, must(maker.Stack(1024, 7)))
	found("fewer triangles", 3, must(maker.Stack(700, 8)))
	found("two nodes, joined with each of others", 1, must(maker.Two(2, 1000)))
	found("parallel edges", 0, must(maker.Bond(3071)))
	g, x := rings(250, 4, 1)
	drawn("rings, an edge from each to the next", 20, g, x)
	g, x = rings(30, 34, 34)
	drawn("rings, all nodes tied", 5, g, x)
	g, x = rings(511, 2, 1)
	drawn("rings of two", 40, g, x)
	g, x = rings(900, 1, 1)
	drawn("loops within one another", 20, g, x)
	g, x = grown(t, rand.New(rand.NewSource(407)), 120, 260)
	drawn("edges laid anywhere", 1, g, x)
	return list
}

func TestGreat(t *testing.T) {
	for i, row := range greats(t) {
		t.Run(row.name, func(t *testing.T) {
			t.Parallel()
			r := rand.New(rand.NewSource(int64(408 + i)))
			g, x, _ := mixed(r, row.g, row.x)
			part, long := parts(g), 0
			for asked := 0; asked < 6; {
				u, v := r.Intn(g.N), r.Intn(g.N)
				if u == v || part[u] != part[v] {
					continue
				}
				if asked++; row.long <= 5 || asked <= 2 {
					long = max(long, checkGreat(t, g, x, u, v))
				}
			}
			if long < row.long {
				t.Errorf("of %s no route has more than %d edges", row.name, long)
			}
		})
	}
}

// TestGreatOnion: a route over as many edges as a net may have that comes, and over more.
func TestGreatOnion(t *testing.T) {
	t.Parallel()
	for _, loops := range []int{1021, 1022, 3070} {
		g, x := onion(loops)
		want := slices.Sorted(slices.Values(indices(loops + 2)[2:]))
		slices.Reverse(want) // from within: the last loop is the innermost one
		for _, pair := range [][2]int{{1, 2}, {2, 1}} {
			route, err := Route(g, x, pair[0], pair[1])
			if !slices.Equal(route, want) || err != api.OK {
				t.Fatalf("P19.1: Route of %d loops: %d edges, %v", loops, len(route), err)
			}
			slices.Reverse(want)
			m, y, way, err := Cross(g, x, pair[0], pair[1])
			if loops > 1021 {
				if err != api.ErrLimit || m.N != 0 || len(m.Edges) != 0 || len(y) != 0 || len(way) != 0 {
					t.Fatalf("P19.2: Cross of %d loops: %v", loops, err)
				}
				continue
			}
			if err != api.OK || m.N != 1024 || len(m.Edges) != 3066 || !slices.Equal(way, indices(3066)[2044:]) {
				t.Fatalf("P19.2: Cross of %d loops: %v, %v", loops, told(m), err)
			}
			if genus, err := rot.Genus(m, y); genus != 0 || err != api.OK {
				t.Fatalf("what follows: Cross of %d loops: genus %d, %v", loops, genus, err)
			}
			checkTurns(t, g, route, m, y, way)
		}
	}
}
