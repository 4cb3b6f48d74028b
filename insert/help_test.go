package insert

import (
	"fmt"
	"math"
	"math/rand"
	"slices"
	"strconv"
	"testing"

	"tracery/api"
	"tracery/dual"
)

// of is a net of n nodes, the ends of its edges in a row.
func of(n int, ends ...int) api.Net {
	g := api.Net{N: n}
	for i := 0; i+1 < len(ends); i += 2 {
		g.Edges = append(g.Edges, [2]int{ends[i], ends[i+1]})
	}
	return g
}

// with is g with more edges behind its own.
func with(g api.Net, ends ...int) api.Net {
	return api.Net{N: g.N, Edges: slices.Concat(g.Edges, of(0, ends...).Edges)}
}

func nums(list ...int) []int { return list }

// strange are numbers that are no node and no half-edge of a small net.
func strange() []int {
	return nums(-1, -2, -1<<32, 1<<32, 1024, 6144, math.MinInt, math.MinInt+1, math.MaxInt, math.MaxInt-1)
}

// made hands on what a call answers that makes a net.
func made(t *testing.T) func(g api.Net, err api.Errno) api.Net {
	return func(g api.Net, err api.Errno) api.Net {
		t.Helper()
		if err != api.OK {
			t.Fatalf("no net was made: %v", err)
		}
		return g
	}
}

// copied is a rotation of its own.
func copied(x api.Rot) api.Rot {
	lists := slices.Clone(x)
	for v := range lists {
		lists[v] = slices.Clone(x[v])
	}
	return lists
}

// spun is the same rotation, its lists begun anywhere.
func spun(r *rand.Rand, x api.Rot) api.Rot {
	lists := copied(x)
	for v, list := range x {
		if len(list) > 0 {
			from := r.Intn(len(list))
			lists[v] = slices.Concat(list[from:], list[:from])
		}
	}
	return lists
}

func sameLists(a, b [][]int) bool { return slices.EqualFunc(a, b, slices.Equal[[]int]) }

// mixed is a net and a rotation of it with nodes and edges under other names, edges turned about, and the new names of the nodes.
func mixed(r *rand.Rand, g api.Net, x api.Rot) (api.Net, api.Rot, []int) {
	node, edge, about := r.Perm(g.N), r.Perm(len(g.Edges)), make([]int, len(g.Edges))
	other := api.Net{N: g.N, Edges: make([][2]int, len(g.Edges))}
	for e, ends := range g.Edges {
		about[e] = r.Intn(2)
		other.Edges[edge[e]] = [2]int{node[ends[about[e]]], node[ends[1-about[e]]]}
	}
	lists := make(api.Rot, g.N)
	for v, list := range x {
		for _, h := range list {
			lists[node[v]] = append(lists[node[v]], 2*edge[h/2]+(h%2^about[h/2]))
		}
	}
	return other, lists, node
}

// corners are all corners of a rotation.
func corners(x api.Rot) []api.Corner {
	var all []api.Corner
	for v, list := range x {
		if len(list) == 0 {
			all = append(all, api.Corner{Node: v, After: -1})
		}
		for _, h := range list {
			all = append(all, api.Corner{Node: v, After: h})
		}
	}
	return all
}

// grown is any planar rotation of n nodes and m edges, laid one by one from any corner to any other one, and it is any net with one.
func grown(t *testing.T, r *rand.Rand, n, m int) (api.Net, api.Rot) {
	t.Helper()
	g, x := of(n), make(api.Rot, n)
	for len(g.Edges) < m && n > 0 {
		all := corners(x)
		more, laid, err := dual.Lay(g, x, all[r.Intn(len(all))], all[r.Intn(len(all))])
		if err == api.OK {
			g, x = more, laid
		} else if err != api.ErrGenus {
			t.Fatalf("no edge was laid: %v", err)
		}
	}
	g, x, _ = mixed(r, g, x)
	return g, spun(r, x)
}

// onion is a node 0 with so many loops within one another, the node 1 within them all, and the node 2 without.
func onion(loops int) (api.Net, api.Rot) {
	g := of(3, 0, 1, 0, 2)
	var in, out []int
	for e := 2; e < loops+2; e++ {
		g.Edges = append(g.Edges, [2]int{0, 0})
		in, out = append(in, 2*e), append(out, 2*e+1)
	}
	slices.Reverse(out)
	return g, api.Rot{slices.Concat(in, nums(0), out, nums(2)), {1}, {3}}
}

// rings are so many cycles of size nodes within one another, with so many edges from each to the next one.
func rings(count, size, spokes int) (api.Net, api.Rot) {
	g := of(count * size)
	four := make([][4]int, g.N) // on along the ring, to the next ring, back, to the ring ahead; 1 more than the half-edge
	tie := func(u, v, way int) {
		four[u][way], four[v][way+2] = 2*len(g.Edges)+1, 2*len(g.Edges)+2
		g.Edges = append(g.Edges, [2]int{u, v})
	}
	for v := range g.N {
		ring, i := v/size, v%size
		tie(v, ring*size+(i+1)%size, 0)
		if i < spokes && ring+1 < count {
			tie(v, v+size, 1)
		}
	}
	x := make(api.Rot, g.N)
	for v, list := range four {
		for _, h := range list {
			if h > 0 {
				x[v] = append(x[v], h-1)
			}
		}
	}
	return g, x
}

// answer is all that is told of two nodes.
type answer struct {
	route, way []int
	cost       int
	net        api.Net
	rot        api.Rot
	errs       [3]api.Errno
}

func ask(g api.Net, x api.Rot, u, v int) answer {
	var a answer
	a.route, a.errs[0] = Route(g, x, u, v)
	a.cost, a.errs[1] = Cost(g, x, u, v)
	a.net, a.rot, a.way, a.errs[2] = Cross(g, x, u, v)
	return a
}

func (a answer) same(b answer) bool {
	return slices.Equal(a.route, b.route) && slices.Equal(a.way, b.way) && a.cost == b.cost && a.net.N == b.net.N &&
		slices.Equal(a.net.Edges, b.net.Edges) && sameLists(a.rot, b.rot) && a.errs == b.errs
}

func (a answer) copied() answer {
	a.route, a.way, a.rot = slices.Clone(a.route), slices.Clone(a.way), copied(a.rot)
	a.net.Edges = slices.Clone(a.net.Edges)
	return a
}

// nothing: whether no net, no rotation and no edges of a way are told.
func (a answer) nothing() bool {
	return a.net.N == 0 && len(a.net.Edges) == 0 && len(a.rot) == 0 && len(a.way) == 0
}

// refused: no call tells anything but the error.
func refused(t *testing.T, g api.Net, x api.Rot, u, v int, err api.Errno) {
	t.Helper()
	a := ask(g, x, u, v)
	if a.errs != [3]api.Errno{err, err, err} || len(a.route) != 0 || a.cost != 0 || !a.nothing() {
		t.Errorf("P19.1, P19.2: of %v, %v from %d to %d: %v, cost %d, %v, %v; %v, not %v", told(g), toldWay(x), u, v, a.route, a.cost, a.net.N, a.way, a.errs, err)
	}
}

// told is a net as a text, in few words if it is great.
func told(g api.Net) string {
	if len(g.Edges) > 60 {
		return "a net of " + strconv.Itoa(g.N) + " nodes and " + strconv.Itoa(len(g.Edges)) + " edges"
	}
	return fmt.Sprint(g)
}

// toldWay is a rotation as a text, in few words if it is great.
func toldWay(x api.Rot) string {
	if len(x) > 40 || len(slices.Concat(x...)) > 120 {
		return "a rotation of " + strconv.Itoa(len(x)) + " lists"
	}
	return fmt.Sprint(x)
}
