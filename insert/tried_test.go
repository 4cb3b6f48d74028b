package insert

import (
	"math/rand"
	"slices"
	"testing"

	"tracery/api"
	"tracery/maker"
	"tracery/planar"
)

// faceOf is of each half-edge the number of its face, by the words alone; faces are numbered by their least half-edges.
func faceOf(g api.Net, x api.Rot) []int {
	face := slices.Repeat([]int{-1}, 2*len(g.Edges))
	next := make([]int, len(face))
	for _, list := range x {
		for i, h := range list {
			next[h^1] = list[(i+1)%len(list)]
		}
	}
	count := 0
	for first := range face {
		if face[first] >= 0 {
			continue
		}
		for h := first; face[h] < 0; h = next[h] {
			face[h] = count
		}
		count++
	}
	return face
}

// set is which faces one may be in.
type set map[int]bool

// at are the faces that have a corner at a node.
func at(face []int, list []int) set {
	in := set{}
	for _, h := range list {
		in[face[h]] = true
	}
	return in
}

// meet: whether two sets have a face in common.
func (a set) meet(b set) bool {
	for f := range a {
		if b[f] {
			return true
		}
	}
	return false
}

// over are the faces that are come to across an edge.
func (a set) over(face []int, e int) set {
	in := set{}
	for h := 2 * e; h <= 2*e+1; h++ {
		if a[face[h]] {
			in[face[h^1]] = true
		}
	}
	return in
}

// parts is of each node a number, the same one in the same component.
func parts(g api.Net) []int {
	part := make([]int, g.N)
	for v := range part {
		part[v] = v
	}
	for range g.N {
		for _, ends := range g.Edges {
			least := min(part[ends[0]], part[ends[1]])
			part[ends[0]], part[ends[1]] = least, least
		}
	}
	return part
}

// triedFirst goes through all lists of edges, shorter ones first, in their order, up to one that leads from a face at u to one at v.
func triedFirst(g api.Net, x api.Rot, u, v int) []int {
	face := faceOf(g, x)
	goal := at(face, x[v])
	var list []int
	var leads func(in set, left int) bool
	leads = func(in set, left int) bool {
		if left == 0 {
			return in.meet(goal)
		}
		for e := range g.Edges {
			if next := in.over(face, e); len(next) > 0 {
				list = append(list, e)
				if leads(next, left-1) {
					return true
				}
				list = list[:len(list)-1]
			}
		}
		return false
	}
	for length := 0; !leads(at(face, x[u]), length); length++ {
	}
	return list
}

// checkTried holds all pairs of nodes against all ways tried, and adds up how many routes have how many edges.
func checkTried(t *testing.T, r *rand.Rand, g api.Net, x api.Rot, lengths []int) {
	t.Helper()
	part := parts(g)
	for u := range g.N {
		for v := range g.N {
			switch {
			case u == v:
				refused(t, g, x, u, v, api.ErrArg)
			case part[u] != part[v]:
				refused(t, g, x, u, v, api.ErrConn)
			default:
				want := triedFirst(g, x, u, v)
				route, err := Route(g, spun(r, x), u, v)
				if !slices.Equal(route, want) || err != api.OK {
					t.Fatalf("P19.1: Route(%v, %v, %d, %d): %v, %v, not %v", g, x, u, v, route, err, want)
				}
				if n, err := Cost(g, spun(r, x), u, v); n != len(want) || err != api.OK {
					t.Fatalf("P19.1: Cost(%v, %v, %d, %d): %d, %v, not %d", g, x, u, v, n, err, len(want))
				}
				lengths[min(len(want), len(lengths)-1)]++
				checkCross(t, g, spun(r, x), u, v)
			}
		}
	}
}

// TestTriedGrown: any planar rotations of small nets of all kinds.
func TestTriedGrown(t *testing.T) {
	t.Parallel()
	r := rand.New(rand.NewSource(401))
	lengths := make([]int, 6)
	for i := range 1200 {
		g, x := grown(t, r, i%9, r.Intn(14))
		checkTried(t, r, g, x, lengths)
	}
	if lengths[0] < 1000 || lengths[1] < 1000 || lengths[2] < 100 || lengths[3] < 5 {
		t.Errorf("few routes: %v", lengths)
	}
}

// TestTriedLong: routes over many edges, with many ways as short.
func TestTriedLong(t *testing.T) {
	t.Parallel()
	r := rand.New(rand.NewSource(402))
	lengths := make([]int, 6)
	for loops := range 7 {
		g, x := onion(loops)
		g, x, _ = mixed(r, g, x)
		checkTried(t, r, g, x, lengths)
	}
	for _, row := range [][3]int{{2, 3, 1}, {2, 3, 3}, {3, 2, 1}, {3, 2, 2}, {3, 3, 1}, {3, 3, 3}, {4, 2, 1}, {4, 3, 1}, {4, 3, 2}, {5, 2, 2}, {6, 2, 1}, {7, 1, 1}, {8, 1, 1}} {
		for range 5 {
			g, x, _ := mixed(r, first(rings(row[0], row[1], row[2])), second(rings(row[0], row[1], row[2])))
			checkTried(t, r, g, x, lengths)
		}
	}
	if slices.Min(lengths) < 20 {
		t.Errorf("few routes: %v", lengths)
	}
}

func first(g api.Net, _ api.Rot) api.Net { return g }

func second(_ api.Net, x api.Rot) api.Rot { return x }

// TestTriedMade: well-known nets, with the rotations that are found and their mirrors.
func TestTriedMade(t *testing.T) {
	t.Parallel()
	must, r := made(t), rand.New(rand.NewSource(403))
	lengths := make([]int, 6)
	list := []api.Net{
		must(maker.Path(5)), must(maker.Cycle(5)), must(maker.Bond(6)), must(maker.Wheel(5)), must(maker.Prism(5)),
		must(maker.Grid(4, 3)), must(maker.Two(2, 5)), must(maker.Complete(4)), of(4, 0, 1, 0, 2, 0, 3), of(2), of(0), of(1, 0, 0),
		of(6, 0, 1, 1, 2, 2, 0, 3, 4, 4, 5, 5, 3), of(6, 0, 1, 1, 2, 2, 0, 3, 4, 4, 5, 5, 3, 0, 3), of(3, 0, 0, 1, 1, 2, 2, 0, 1, 1, 2),
	}
	for seed := range uint64(6) {
		list = append(list, must(maker.Stack(4+int(seed), seed)))
	}
	for _, g := range list {
		x, err := planar.Embed(g)
		if err != api.OK {
			t.Fatalf("no rotation: %v", err)
		}
		checkTried(t, r, g, x, lengths)
		for v := range x {
			slices.Reverse(x[v])
		}
		checkTried(t, r, g, x, lengths)
	}
}
