package planar

import (
	"math/rand"
	"slices"
	"testing"

	"tracery/api"
	"tracery/kura"
	"tracery/maker"
	"tracery/net"
	"tracery/rot"
)

// chosen are the places of the ones in set, of count bits.
func chosen(set, count int) []int {
	var list []int
	for e := range count {
		if set>>e&1 == 1 {
			list = append(list, e)
		}
	}
	return list
}

// obstructed tells of each set of edges of g whether some of them form a subdivision: they do all together, or do without one.
func obstructed(t *testing.T, g api.Net) []bool {
	t.Helper()
	m := len(g.Edges)
	bad := make([]bool, 1<<m)
	for set := range bad {
		edges := chosen(set, m)
		if len(edges) < 9 {
			continue
		}
		kind, err := kura.Kind(g, edges)
		if err != api.OK {
			t.Fatalf("Kind(%v, %v): %v", g, edges, err)
		}
		bad[set] = kind != 0
		for _, e := range edges {
			bad[set] = bad[set] || bad[set&^(1<<e)]
		}
	}
	return bad
}

// TestAllSubsets: each net of edges of some nets, among them all simple nets of up to 6 nodes, against all subdivisions that there are.
func TestAllSubsets(t *testing.T) {
	must := made(t)
	r := rand.New(rand.NewSource(130))
	for _, row := range []struct {
		name string
		g    api.Net
	}{
		{"Complete(5)", core(t, 5)},
		{"Complete(6)", must(maker.Complete(6))},
		{"Two(3, 5)", must(maker.Two(3, 5))},
		{"Two(4, 4)", must(maker.Two(4, 4))},
		{"Petersen's", petersen()},
		{"a ladder with a twist", twisted(10)},
		{"Complete(5), an edge twice, a loop, an edge that hangs there", with(wider(core(t, 5), 1), 1, 0, 2, 2, 3, 5)},
		{"Two(3, 3), an edge twice, a loop, second ways", with(wider(core(t, 33), 1), 3, 0, 2, 2, 5, 6, 6, 1, 6, 4)},
		{"Complete(5), second ways", with(wider(core(t, 5), 1), 5, 0, 5, 1, 5, 3, 5, 4)},
	} {
		g := turned(r, row.g)
		for set, bad := range obstructed(t, g) {
			sub := must(net.Sub(g, chosen(set, len(g.Edges))))
			if certified(t, row.name, sub) == bad {
				t.Fatalf("P13.1: %v, part of %s: planar %v", sub, row.name, bad)
			}
		}
	}
}

// TestSevenNodes: many of the simple nets of 7 nodes, by drawn parts of Complete(7), against all subdivisions in them.
func TestSevenNodes(t *testing.T) {
	must := made(t)
	r := rand.New(rand.NewSource(131))
	seven := must(maker.Complete(7))
	for range 6 {
		g := must(net.Sub(seven, r.Perm(21)[:15]))
		for set, bad := range obstructed(t, g) {
			if set%5 != 0 {
				continue
			}
			if sub := must(net.Sub(g, chosen(set, 15))); certified(t, "seven nodes", sub) == bad {
				t.Fatalf("P13.1: %v: planar %v", sub, bad)
			}
		}
	}
}

// TestFewEdges: all nets of up to 3 nodes and 4 edges, loops and parallel edges in any order and direction; so few are planar.
func TestFewEdges(t *testing.T) {
	for n := range 4 {
		for m := range 5 {
			ways := 1
			for range m {
				ways *= n * n
			}
			for way := range ways {
				g := api.Net{N: n}
				for k := way; len(g.Edges) < m; k /= n * n {
					g = with(g, k%(n*n)/n, k%n)
				}
				if !certified(t, "few edges", g) {
					t.Fatalf("P13.1: %v is planar", g)
				}
			}
		}
	}
}

// hasPlanarRotation goes over all rotations of g, for that is the chapter's word; the first half-edge of each list stays where it is.
func hasPlanarRotation(g api.Net, r api.Rot, v, at int) bool {
	if v == g.N {
		genus, _ := rot.Genus(g, r)
		return genus == 0
	}
	if at+1 >= len(r[v]) {
		return hasPlanarRotation(g, r, v+1, 1)
	}
	for i := at; i < len(r[v]); i++ {
		r[v][at], r[v][i] = r[v][i], r[v][at]
		found := hasPlanarRotation(g, r, v, at+1)
		r[v][at], r[v][i] = r[v][i], r[v][at]
		if found {
			return true
		}
	}
	return false
}

// rotations: how many rotations g has, but for where lists begin; or most, if there are more.
func rotations(g api.Net, most int) int {
	degrees, _ := net.Degrees(g)
	count := 1
	for _, d := range degrees {
		for k := 2; k < d; k++ {
			count = min(count*k, most)
		}
	}
	return count
}

// cubic is a drawn simple net of n nodes, each of the degree 3.
func cubic(r *rand.Rand, n int) api.Net {
	ends := slices.Repeat(r.Perm(n), 3)
	for {
		r.Shuffle(len(ends), func(i, k int) { ends[i], ends[k] = ends[k], ends[i] })
		if look, err := net.Look(of(n, ends...)); look.Simple && err == api.OK {
			return of(n, ends...)
		}
	}
}

// TestAllRotations: nets with few rotations, all of which are tried.
func TestAllRotations(t *testing.T) {
	r := rand.New(rand.NewSource(132))
	var count [2]int
	check := func(name string, g api.Net) {
		first, _ := rot.First(g)
		want := hasPlanarRotation(g, first, 0, 1)
		if certified(t, name, g) != want {
			t.Fatalf("P13.1: %s, %v: planar %v", name, g, want)
		}
		if want {
			count[0]++
		} else {
			count[1]++
		}
	}
	check("Complete(5)", core(t, 5))
	check("Petersen's", petersen())
	for range 500 {
		if g := some(r, 8, 11); rotations(g, 3000) < 3000 {
			check("a net with few rotations", g)
		}
	}
	for range 800 {
		check("a net of the degree 3", cubic(r, 6+2*r.Intn(3)))
	}
	if count[0] < 200 || count[1] < 200 {
		t.Errorf("few of one sort: %v", count)
	}
}

// TestMany: drawn nets of all sorts, several blocks and components among them; each verdict proves itself.
func TestMany(t *testing.T) {
	r := rand.New(rand.NewSource(133))
	var count [2]int
	for i := range 4000 {
		n := 5 + i%15
		g := drawn(r, n, n+r.Intn(2*n))
		if i%3 == 0 {
			g = hung(t, r, drawn(r, 6, 12), drawn(r, 9, 14), wider(some(r, 5, 10), 1))
		}
		if certified(t, "a drawn net", g) {
			count[0]++
		} else {
			count[1]++
		}
	}
	if count[0] < 500 || count[1] < 500 {
		t.Errorf("few of one sort: %v", count)
	}
}
