package block

import (
	"math/rand"
	"testing"

	"tracery/api"
	"tracery/maker"
)

// checkEars holds ears against the words, half-edge by half-edge.
func checkEars(t *testing.T, g api.Net) [][]int {
	t.Helper()
	list, err := Ear(g)
	if err != api.OK || len(list) == 0 {
		t.Fatalf("P8.3: %v: %v, %v", g, list, err)
	}
	used, on := make([]int, len(g.Edges)), make([]bool, g.N)
	for i, ear := range list {
		nodes := nodesOf(t, g, ear, used)
		first, last, inner := nodes[0], nodes[len(nodes)-1], nodes[1:len(nodes)-1]
		if i == 0 && first != last {
			t.Fatalf("P8.3: %v: %v: the first one is no cycle", g, list)
		}
		if i > 0 && (first == last || !on[first] || !on[last]) {
			t.Fatalf("P8.3: %v: %v: %v has wrong ends", g, list, ear)
		}
		on[first] = true
		for _, v := range inner {
			if on[v] {
				t.Fatalf("P8.3: %v: %v: %v is on another, or over a node twice", g, list, ear)
			}
			on[v] = true
		}
	}
	for e, times := range used {
		if times != 1 {
			t.Fatalf("P8.3: %v: %v: the edge %d is %d times there", g, list, e, times)
		}
	}
	if len(list) != len(g.Edges)-g.N+1 {
		t.Fatalf("P8.3: %v: %d ears", g, len(list))
	}
	return list
}

// nodesOf: the nodes of an ear, from where it begins to where it ends; its edges are counted.
func nodesOf(t *testing.T, g api.Net, ear, used []int) []int {
	t.Helper()
	if len(ear) == 0 {
		t.Fatalf("P8.3: %v: an ear of nothing", g)
	}
	var nodes []int
	for k, h := range ear {
		if h < 0 || h >= 2*len(g.Edges) {
			t.Fatalf("P8.3: %v: %v: there is no %d", g, ear, h)
		}
		if k > 0 && fromOf(g, h) != fromOf(g, ear[k-1]^1) {
			t.Fatalf("P8.3: %v: %v: no way at %d", g, ear, h)
		}
		used[h/2]++
		nodes = append(nodes, fromOf(g, h))
	}
	return append(nodes, fromOf(g, ear[len(ear)-1]^1))
}

func TestEar(t *testing.T) {
	for _, row := range []struct {
		name    string
		g       api.Net
		lengths []int // of the ears, where they can't be others
	}{
		{"the example", of(3, 0, 1, 1, 2, 2, 0, 0, 1), nil},
		{"a cycle", of(3, 0, 1, 1, 2, 2, 0), nums(3)},
		{"two parallel edges", of(2, 0, 1, 0, 1), nums(2)},
		{"two parallel edges, one turned", of(2, 0, 1, 1, 0), nums(2)},
		{"four parallel edges", of(2, 1, 0, 0, 1, 0, 1, 1, 0), nums(2, 1, 1)},
		{"each edge doubled", of(3, 0, 1, 1, 0, 1, 2, 2, 1, 2, 0, 0, 2), nil},
		{"a cycle with a chord", of(4, 0, 1, 1, 2, 2, 3, 3, 0, 0, 2), nil},
		{"three ways between two nodes", of(5, 0, 1, 0, 2, 0, 3, 1, 4, 2, 4, 3, 4), nums(4, 2)},
		{"all edges of four nodes", of(4, 0, 1, 0, 2, 0, 3, 1, 2, 1, 3, 2, 3), nil},
	} {
		list := checkEars(t, row.g)
		for i, n := range row.lengths {
			if len(list[i]) != n {
				t.Errorf("P8.3: %s: %v", row.name, list)
			}
		}
	}
}

// TestEarRefuses: ErrBicon ahead of ErrSmall.
func TestEarRefuses(t *testing.T) {
	for _, row := range []struct {
		name string
		g    api.Net
		err  api.Errno
	}{
		{"the example of the other calls", example(), api.ErrBicon},
		{"no node", of(0), api.ErrBicon},
		{"one node", of(1), api.ErrBicon},
		{"a loop", of(1, 0, 0), api.ErrBicon},
		{"two loops", of(1, 0, 0, 0, 0), api.ErrBicon},
		{"two nodes without an edge", of(2), api.ErrBicon},
		{"a loop beside a node", of(2, 0, 0), api.ErrBicon},
		{"an edge", of(2, 0, 1), api.ErrSmall},
		{"an edge the other way about", of(2, 1, 0), api.ErrSmall},
		{"an edge beside a node", of(3, 0, 1), api.ErrBicon},
		{"an edge with a loop", of(2, 0, 1, 1, 1), api.ErrBicon},
		{"parallel edges with a loop", of(2, 0, 1, 0, 1, 0, 0), api.ErrBicon},
		{"a row", of(3, 0, 1, 1, 2), api.ErrBicon},
		{"a cycle with an edge more", of(4, 0, 1, 1, 2, 2, 0, 2, 3), api.ErrBicon},
		{"a cycle beside a node", of(4, 0, 1, 1, 2, 2, 0), api.ErrBicon},
		{"a cycle with a loop", of(3, 0, 1, 1, 2, 2, 0, 1, 1), api.ErrBicon},
		{"two cycles with a node in common", of(5, 0, 1, 1, 2, 2, 0, 2, 3, 3, 4, 4, 2), api.ErrBicon},
		{"two cycles apart", of(4, 0, 1, 1, 0, 2, 3, 3, 2), api.ErrBicon},
		{"1,024 nodes without edges", of(1024), api.ErrBicon},
		{"1,024 nodes in a row", made(t)(maker.Path(1024)), api.ErrBicon},
		{"3,072 loops", loops(1, 3072), api.ErrBicon},
	} {
		if list, e := Ear(row.g); e != row.err || len(list) > 0 {
			t.Errorf("P8.3: %s: %v, %v, want %v", row.name, list, e, row.err)
		}
	}
}

// grown is a biconnected net: a cycle on which ears grew, as great as n nodes and m edges allow.
func grown(r *rand.Rand, n, m int) api.Net {
	size := 2 + r.Intn(n-1)
	g := api.Net{N: size}
	for v := range size {
		g.Edges = append(g.Edges, [2]int{v, (v + 1) % size})
	}
	for len(g.Edges) < m {
		a, b := r.Intn(g.N), r.Intn(g.N-1)
		if b >= a {
			b++
		}
		for range min(r.Intn(4), n-g.N, m-len(g.Edges)-1) {
			g.Edges = append(g.Edges, [2]int{a, g.N})
			a = g.N
			g.N++
		}
		g.Edges = append(g.Edges, [2]int{a, b})
	}
	return g
}

func TestEarsByTheWords(t *testing.T) {
	r := rand.New(rand.NewSource(85))
	for i := range 4000 {
		n := 2 + i%12
		g := shuffled(r, grown(r, n, n+i%17))
		if ok, e := Biconnected(g); !ok || e != api.OK {
			t.Fatalf("P8.1: Biconnected(%v): %v, %v", g, ok, e)
		}
		checkEars(t, g)
	}
}

// TestEarsOfAny: of any net there are ears just if it is biconnected and has two edges.
func TestEarsOfAny(t *testing.T) {
	r := rand.New(rand.NewSource(86))
	seen := map[api.Errno]int{}
	for i := range 6000 {
		g := some(r, 2+i%4, 1+i%11)
		ok, _ := Biconnected(g)
		want := api.OK
		switch {
		case !ok:
			want = api.ErrBicon
		case len(g.Edges) < 2:
			want = api.ErrSmall
		}
		list, e := Ear(g)
		if e != want || e != api.OK && len(list) > 0 {
			t.Fatalf("P8.3: %v: %v, %v, want %v", g, list, e, want)
		}
		if seen[e]++; e == api.OK {
			checkEars(t, g)
		}
	}
	if len(seen) != 3 {
		t.Errorf("P8.3: only %v came", seen)
	}
}

func TestGreatEars(t *testing.T) {
	r := rand.New(rand.NewSource(87))
	count := 0
	list := append(great(t), grown(r, 1024, 3072), grown(r, 1024, 1100), grown(r, 20, 3072))
	for _, g := range list {
		if ok, _ := Biconnected(g); ok {
			count++
			checkEars(t, g)
			checkEars(t, shuffled(r, g))
		}
	}
	if count < 10 {
		t.Errorf("P8.3: only %d with ears", count)
	}
}
