package planar

import (
	"math/rand"
	"slices"
	"testing"

	"tracery/api"
	"tracery/kura"
	"tracery/maker"
	"tracery/net"
	"tracery/rot"
)

// of is a net of n nodes, the ends of its edges in a row.
func of(n int, ends ...int) api.Net {
	g := api.Net{N: n}
	for i := 0; i+1 < len(ends); i += 2 {
		g.Edges = append(g.Edges, [2]int{ends[i], ends[i+1]})
	}
	return g
}

// with is g with more edges behind its own.
func with(g api.Net, ends ...int) api.Net {
	return api.Net{N: g.N, Edges: slices.Concat(g.Edges, of(0, ends...).Edges)}
}

// wider is g with nodes more.
func wider(g api.Net, more int) api.Net { return api.Net{N: g.N + more, Edges: slices.Clone(g.Edges)} }

func nums(list ...int) []int { return list }

// made hands on what a call answers that makes a net.
func made(t *testing.T) func(g api.Net, err api.Errno) api.Net {
	return func(g api.Net, err api.Errno) api.Net {
		t.Helper()
		if err != api.OK {
			t.Fatalf("no net was made: %v", err)
		}
		return g
	}
}

// joined is a net of net.Merge.
func joined(g api.Net, _ []int, err api.Errno) api.Net {
	if err != api.OK {
		panic("no net was made")
	}
	return g
}

// core is K5 or K3,3.
func core(t *testing.T, kind int) api.Net {
	t.Helper()
	if kind == 5 {
		return made(t)(maker.Complete(5))
	}
	return made(t)(maker.Two(3, 3))
}

// petersen has no node of the degree 4, and so subdivisions of K3,3 alone.
func petersen() api.Net {
	return of(10, 0, 1, 1, 2, 2, 3, 3, 4, 4, 0, 0, 5, 1, 6, 2, 7, 3, 8, 4, 9, 5, 7, 7, 9, 9, 6, 6, 8, 8, 5)
}

// twisted is a cycle of n nodes, n even, each joined with the one across: not planar from 6 on.
func twisted(n int) api.Net {
	g := api.Net{N: n}
	for v := range n {
		g = with(g, v, (v+1)%n)
	}
	for v := range n / 2 {
		g = with(g, v, v+n/2)
	}
	return g
}

// split is g with so many edges split, any of them.
func split(t *testing.T, r *rand.Rand, g api.Net, times int) api.Net {
	t.Helper()
	for range times {
		g = made(t)(net.Split(g, r.Intn(len(g.Edges))))
	}
	return g
}

// shuffled is g with its nodes and edges in another order, and edges turned about.
func shuffled(t *testing.T, r *rand.Rand, g api.Net) api.Net {
	t.Helper()
	g = made(t)(net.Moved(g, r.Perm(g.N)))
	return turned(r, made(t)(net.Sub(g, r.Perm(len(g.Edges)))))
}

// turned is g with some of its edges turned about.
func turned(r *rand.Rand, g api.Net) api.Net {
	g = wider(g, 0)
	for e, ends := range g.Edges {
		if r.Intn(2) == 0 {
			g.Edges[e] = [2]int{ends[1], ends[0]}
		}
	}
	return g
}

// drawn is a net of n nodes and m edges, any ones.
func drawn(r *rand.Rand, n, m int) api.Net {
	g := api.Net{N: n}
	for range m {
		g.Edges = append(g.Edges, [2]int{r.Intn(n), r.Intn(n)})
	}
	return g
}

// some is a net of at most n nodes and m edges, all kinds of edges among them.
func some(r *rand.Rand, n, m int) api.Net {
	if n = r.Intn(n + 1); n == 0 {
		return of(0)
	}
	return drawn(r, n, r.Intn(m+1))
}

// hung is nets one behind the other, each with a node in common with those ahead, or a bridge between, or nothing.
func hung(t *testing.T, r *rand.Rand, nets ...api.Net) api.Net {
	t.Helper()
	all := nets[0]
	for _, g := range nets[1:] {
		u, v := r.Intn(all.N), all.N+r.Intn(g.N)
		all = made(t)(net.Join(all, g))
		switch r.Intn(3) {
		case 0:
			all = joined(net.Merge(all, u, v))
		case 1:
			all = with(all, u, v)
		}
	}
	return all
}

func sameLists(a, b [][]int) bool { return slices.EqualFunc(a, b, slices.Equal[[]int]) }

// certified holds a verdict against what proves it, and all calls against the verdict; and tells whether g is planar.
func certified(t *testing.T, name string, g api.Net) bool {
	t.Helper()
	v, err := Test(g)
	if err != api.OK {
		t.Fatalf("P13.1: Test of %s: %v", name, err)
	}
	if v.Planar {
		checkRot(t, name, g, v)
	} else {
		checkEdges(t, name, g, v)
	}
	if is, err := Is(g); is != v.Planar || err != api.OK {
		t.Fatalf("P13.1: Is of %s: %v, %v", name, is, err)
	}
	wantEmbed, wantBlock := api.OK, api.ErrNone
	if !v.Planar {
		wantEmbed, wantBlock = api.ErrPlanar, api.OK
	}
	if r, err := Embed(g); err != wantEmbed || !sameLists(r, v.Rot) {
		t.Fatalf("P13.2: Embed of %s: %v, %v", name, r, err)
	}
	if edges, err := Block(g); err != wantBlock || !slices.Equal(edges, v.Edges) {
		t.Fatalf("P13.2: Block of %s: %v, %v", name, edges, err)
	}
	return v.Planar
}

// checkRot: the verdict has a planar rotation, Canon, and no edges.
func checkRot(t *testing.T, name string, g api.Net, v api.Verdict) {
	t.Helper()
	if err := rot.May(g, v.Rot); err != api.OK || len(v.Edges) != 0 {
		t.Fatalf("P13.1: Test of %s, %v: %v, %v", name, g, v, err)
	}
	if genus, err := rot.Genus(g, v.Rot); genus != 0 || err != api.OK {
		t.Fatalf("P13.1: Test of %s, %v: genus %d, %v", name, g, genus, err)
	}
	if canon, err := rot.Canon(g, v.Rot); !sameLists(canon, v.Rot) || err != api.OK {
		t.Fatalf("P13.1: Test of %s, %v: %v is not Canon", name, g, v.Rot)
	}
}

// checkEdges: the verdict has edges that rise and form a subdivision, and no rotation.
func checkEdges(t *testing.T, name string, g api.Net, v api.Verdict) {
	t.Helper()
	if kind, err := kura.Kind(g, v.Edges); kind == 0 || err != api.OK || len(v.Rot) != 0 {
		t.Fatalf("P13.1: Test of %s, %v: %v, kind %d, %v", name, g, v, kind, err)
	}
	if !slices.IsSorted(v.Edges) {
		t.Fatalf("P13.1: Test of %s: %v do not rise", name, v.Edges)
	}
}
