package embed

import (
	"fmt"
	"math"
	"math/rand"
	"slices"
	"strconv"
	"testing"

	"tracery/api"
	"tracery/maker"
	"tracery/net"
	"tracery/rot"
)

// of is a net of n nodes, the ends of its edges in a row.
func of(n int, ends ...int) api.Net {
	g := api.Net{N: n}
	for i := 0; i+1 < len(ends); i += 2 {
		g.Edges = append(g.Edges, [2]int{ends[i], ends[i+1]})
	}
	return g
}

// with is g with more edges behind its own.
func with(g api.Net, ends ...int) api.Net {
	return api.Net{N: g.N, Edges: slices.Concat(g.Edges, of(0, ends...).Edges)}
}

// wider is g with nodes more.
func wider(g api.Net, more int) api.Net { return api.Net{N: g.N + more, Edges: slices.Clone(g.Edges)} }

// without is g without one edge.
func without(g api.Net, e int) api.Net {
	return api.Net{N: g.N, Edges: slices.Concat(g.Edges[:e], g.Edges[e+1:])}
}

// made hands on what a call answers that makes a net.
func made(t *testing.T) func(g api.Net, err api.Errno) api.Net {
	return func(g api.Net, err api.Errno) api.Net {
		t.Helper()
		if err != api.OK {
			t.Fatalf("no net was made: %v", err)
		}
		return g
	}
}

// joined is a net of net.Merge.
func joined(g api.Net, _ []int, err api.Errno) api.Net {
	if err != api.OK {
		panic("no net was made")
	}
	return g
}

// doubled is g with each edge twice, the second time the other way about.
func doubled(g api.Net) api.Net {
	twice := api.Net{N: g.N}
	for _, ends := range g.Edges {
		twice.Edges = append(twice.Edges, ends, [2]int{ends[1], ends[0]})
	}
	return twice
}

// shuffled is g with its nodes and edges in another order, and edges turned about.
func shuffled(t *testing.T, r *rand.Rand, g api.Net) api.Net {
	t.Helper()
	g = made(t)(net.Moved(g, r.Perm(g.N)))
	g = made(t)(net.Sub(g, r.Perm(len(g.Edges))))
	for e, ends := range g.Edges {
		if r.Intn(2) == 0 {
			g.Edges[e] = [2]int{ends[1], ends[0]}
		}
	}
	return g
}

// more is g with so many edges behind its own, any ones.
func more(r *rand.Rand, g api.Net, count int) api.Net {
	g = wider(g, 0)
	for range count {
		g.Edges = append(g.Edges, [2]int{r.Intn(g.N), r.Intn(g.N)})
	}
	return g
}

// some is a net of at most n nodes and m edges, all kinds of edges among them.
func some(r *rand.Rand, n, m int) api.Net {
	if n = r.Intn(n + 1); n == 0 {
		return of(0)
	}
	return more(r, of(n), r.Intn(m+1))
}

// eared is a biconnected net: a cycle, and so many rows from node to node, each with up to four nodes of its own.
func eared(t *testing.T, r *rand.Rand, rows int) api.Net {
	t.Helper()
	g := made(t)(maker.Cycle(2 + r.Intn(5)))
	for range rows {
		ends := r.Perm(g.N)
		v := ends[0]
		for range r.Intn(5) {
			g = with(wider(g, 1), v, g.N)
			v = g.N - 1
		}
		g = with(g, v, ends[1])
	}
	return shuffled(t, r, g)
}

// atTwo is both nets with two nodes in common: the ends of an edge of each, any one, which stays or goes.
func atTwo(t *testing.T, r *rand.Rand, a, b api.Net) api.Net {
	t.Helper()
	e, f := r.Intn(len(a.Edges)), r.Intn(len(b.Edges))
	u, v := a.Edges[e][0], a.Edges[e][1]
	x, y := a.N+b.Edges[f][0], a.N+b.Edges[f][1]
	all := made(t)(net.Join(a, b))
	all = joined(net.Merge(all, u, x))
	if y > x {
		y--
	}
	all = joined(net.Merge(all, v, y))
	var stay []int
	for k := range all.Edges {
		if k != e && k != len(a.Edges)+f || r.Intn(2) == 0 {
			stay = append(stay, k)
		}
	}
	return made(t)(net.Sub(all, stay))
}

func petersen() api.Net {
	return of(10, 0, 1, 1, 2, 2, 3, 3, 4, 4, 0, 0, 5, 1, 6, 2, 7, 3, 8, 4, 9, 5, 7, 7, 9, 9, 6, 6, 8, 8, 5)
}

// fan is a path whose first node has an edge to each of the others.
func fan(t *testing.T, n int) api.Net {
	t.Helper()
	g := made(t)(maker.Path(n))
	for v := 2; v < n; v++ {
		g = with(g, 0, v)
	}
	return g
}

// beads is a cycle with its k-th edge so many times as the k-th number says: at least three numbers have as many ways as their factorials, multiplied.
func beads(counts ...int) api.Net {
	g := of(len(counts))
	for v, count := range counts {
		for range count {
			g = with(g, v, (v+1)%len(counts))
		}
	}
	return g
}

// strange are numbers of ways that no net has.
func strange() []int64 {
	return []int64{-1, -2, -1 << 32, -1 << 40, 1 << 40, 1<<40 + 1, math.MinInt64, math.MinInt64 + 1, math.MaxInt64, math.MaxInt64 - 1}
}

// copied is a rotation of its own.
func copied(r api.Rot) api.Rot {
	list := slices.Clone(r)
	for v := range list {
		list[v] = slices.Clone(r[v])
	}
	return list
}

// spun is the same rotation, its lists begun anywhere.
func spun(r *rand.Rand, way api.Rot) api.Rot {
	list := copied(way)
	for v, round := range way {
		if len(round) > 0 {
			from := r.Intn(len(round))
			list[v] = slices.Concat(round[from:], round[:from])
		}
	}
	return list
}

func sameLists(a, b api.Rot) bool { return slices.EqualFunc(a, b, slices.Equal[[]int]) }

// key is a rotation as a text.
func key(r api.Rot) string {
	var text []byte
	for _, list := range r {
		for _, h := range list {
			text = append(strconv.AppendInt(text, int64(h), 10), ' ')
		}
		text = append(text, '/')
	}
	return string(text)
}

// count is Count of a net that has ways.
func count(t *testing.T, g api.Net) int64 {
	t.Helper()
	n, err := Count(g)
	if err != api.OK || n < 1 || n > api.MaxWays {
		t.Fatalf("P18.1: Count(%v): %d, %v", told(g), n, err)
	}
	return n
}

// wayAt is the k-th way of g: a planar rotation of it, Canon, whose number is k, wherever its lists begin.
func wayAt(t *testing.T, r *rand.Rand, g api.Net, k int64) api.Rot {
	t.Helper()
	way, err := At(g, k)
	if err != api.OK {
		t.Fatalf("P18.1: At(%v, %d): %v", told(g), k, err)
	}
	if genus, err := rot.Genus(g, way); genus != 0 || err != api.OK {
		t.Fatalf("P18.1: At(%v, %d): %v: genus %d, %v", told(g), k, toldWay(way), genus, err)
	}
	if canon, _ := rot.Canon(g, way); !sameLists(way, canon) {
		t.Fatalf("P18.1: At(%v, %d): %v is not Canon", told(g), k, toldWay(way))
	}
	for _, form := range []api.Rot{way, spun(r, way)} {
		if number, err := Number(g, form); number != k || err != api.OK {
			t.Fatalf("P18.2: Number(%v, %v): %d, %v, not %d", told(g), toldWay(form), number, err, k)
		}
	}
	return way
}

// numbered: the number of a planar rotation is that of a way which is the same.
func numbered(t *testing.T, r *rand.Rand, g api.Net, way api.Rot) int64 {
	t.Helper()
	k, err := Number(g, spun(r, way))
	if err != api.OK {
		t.Fatalf("P18.2: Number(%v, %v): %v", told(g), toldWay(way), err)
	}
	if same, err := rot.Same(g, wayAt(t, r, g, k), way); !same || err != api.OK {
		t.Fatalf("P18.2: At(%v, %d) is not %v", told(g), k, toldWay(way))
	}
	return k
}

// refused: no call tells anything but the error.
func refused(t *testing.T, g api.Net, k int64, r api.Rot, noCount, noWay, noNumber api.Errno) {
	t.Helper()
	if n, err := Count(g); n != 0 || err != noCount {
		t.Errorf("P18.1: Count(%v): %d, %v, not %v", told(g), n, err, noCount)
	}
	if way, err := At(g, k); len(way) != 0 || err != noWay {
		t.Errorf("P18.1: At(%v, %d): %v, %v, not %v", told(g), k, toldWay(way), err, noWay)
	}
	if n, err := Number(g, r); n != 0 || err != noNumber {
		t.Errorf("P18.2: Number(%v, %v): %d, %v, not %v", told(g), toldWay(r), n, err, noNumber)
	}
}

// told is a net as a text, in few words if it is great.
func told(g api.Net) string {
	if len(g.Edges) > 60 {
		return "a net of " + strconv.Itoa(g.N) + " nodes and " + strconv.Itoa(len(g.Edges)) + " edges"
	}
	return fmt.Sprint(g)
}

// toldWay is a rotation as a text, in few words if it is great.
func toldWay(r api.Rot) string {
	if len(r) > 40 || len(slices.Concat(r...)) > 120 {
		return "a rotation of " + strconv.Itoa(len(r)) + " lists"
	}
	return fmt.Sprint(r)
}
