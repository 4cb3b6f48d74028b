package embed

import (
	"math/rand"
	"slices"
	"testing"

	"tracery/api"
	"tracery/maker"
	"tracery/planar"
	"tracery/rot"
)

// great are nets as great as they may be, or nearly; as many ways as none stand for too many.
func great(t *testing.T) []known {
	t.Helper()
	must := made(t)
	ones := slices.Repeat([]int{1}, 1024)
	sheaves, one := slices.Clone(ones), slices.Clone(ones)
	for i := range 40 {
		sheaves[25*i] = 2
	}
	one[500] = 14
	return []known{
		{"a cycle", must(maker.Cycle(1024)), 1},
		{"a cycle with a chord", with(must(maker.Cycle(1024)), 17, 900), 2},
		{"a cycle, forty of its edges twice", beads(sheaves...), 1 << 40},
		{"a cycle, one of its edges fourteen times", beads(one...), factorial(14)},
		{"fifteen paths between two nodes", paths(15, 68), factorial(14)},
		{"forty Rigids in a row", rigidRow(t, 40, 26), 1 << 40},
		{"forty Rigids, one on the other", rigidTower(t, 40, 27), 1 << 40},
		{"Rigids and Sheaves on a Sheaf", bunch(t), 24 * 720 * 32},
		{"a grid", must(maker.Grid(32, 32)), 2},
		{"triangles", must(maker.Stack(1024, 3)), 2},
		{"parallel edges", must(maker.Bond(3072)), none},
		{"a cycle, each edge twice", doubled(must(maker.Cycle(1024))), none},
		{"two nodes, joined with each of others", must(maker.Two(2, 1022)), none},
		{"a fan", fan(t, 1024), none},
		{"a grid, each edge twice", doubled(must(maker.Grid(20, 27))), none},
		{"forty-one Rigids in a row", rigidRow(t, 41, 25), none},
	}
}

// paths are so many paths between two nodes, each with so many nodes of its own.
func paths(count, length int) api.Net {
	g := of(2)
	for range count {
		v := 0
		for range length {
			g = with(wider(g, 1), v, g.N)
			v = g.N - 1
		}
		g = with(g, v, 1)
	}
	return g
}

// rigidRow is a cycle, each edge of which is a net of level 3 without an edge, of n nodes.
func rigidRow(t *testing.T, count, n int) api.Net {
	t.Helper()
	g := of(count)
	for v := range count {
		g = hang(g, made(t)(maker.Stack(n, uint64(v))), v, (v+1)%count)
	}
	return g
}

// rigidTower is a net of level 3, an edge of which is another one without an edge, and so on.
func rigidTower(t *testing.T, count, n int) api.Net {
	t.Helper()
	g := made(t)(maker.Stack(n, 99))
	for i := range count - 1 {
		last := g.Edges[len(g.Edges)-1]
		g = hang(without(g, len(g.Edges)-1), made(t)(maker.Stack(n, uint64(i))), last[0], last[1])
	}
	return g
}

// hang is g with another net between the nodes u and v, without its edge 0, whose ends they are.
func hang(g, part api.Net, u, v int) api.Net {
	from := g.N
	name := make([]int, part.N)
	for x := range name {
		switch x {
		case part.Edges[0][0]:
			name[x] = u
		case part.Edges[0][1]:
			name[x] = v
		default:
			name[x] = from
			from++
		}
	}
	all := api.Net{N: from, Edges: slices.Clone(g.Edges)}
	for _, ends := range part.Edges[1:] {
		all.Edges = append(all.Edges, [2]int{name[ends[0]], name[ends[1]]})
	}
	return all
}

// bunch is a Sheaf of five: two edges, two great Rigids, and a Ring, whose edges are a Sheaf of seven and three times a Rigid.
func bunch(t *testing.T) api.Net {
	t.Helper()
	stack := made(t)(maker.Stack(200, 7))
	g := hang(hang(of(2, 0, 1, 0, 1), stack, 0, 1), stack, 0, 1)
	from := g.N
	g = with(wider(g, 3), 0, from, 0, from, 0, from, 0, from, 0, from, 0, from)
	return hang(hang(hang(g, stack, from, from+1), stack, from+1, from+2), stack, from+2, 1)
}

func TestGreat(t *testing.T) {
	for i, row := range great(t) {
		t.Run(row.name, func(t *testing.T) {
			t.Parallel()
			r := rand.New(rand.NewSource(int64(2700 + i)))
			g := shuffled(t, r, row.g)
			if row.ways == none {
				refused(t, g, 0, nil, api.ErrMany, api.ErrMany, api.ErrMany)
				return
			}
			if n := count(t, g); n != row.ways {
				t.Fatalf("P18.1: Count of %s: %d, not %d", row.name, n, row.ways)
			}
			k := r.Int63n(row.ways)
			way := wayAt(t, r, g, k)
			mirror, _ := rot.Mirror(g, way)
			back, err := Number(g, mirror)
			if again, _ := At(g, back); !sameLists(again, mirror) || err != api.OK || row.ways > 1 && back == k {
				t.Errorf("P18.2: of %s the mirror of the way %d: %d, %v", row.name, k, back, err)
			}
			own, _ := planar.Embed(g)
			if k, err := Number(g, own); k < 0 || k >= row.ways || err != api.OK {
				t.Errorf("P18.2: of %s the rotation that is found has the number %d: %v", row.name, k, err)
			}
			if _, err := At(g, row.ways); err != api.ErrBounds {
				t.Errorf("P18.1: At of %s, beyond the last way: %v", row.name, err)
			}
		})
	}
}

// TestGreatNotPlanar: great nets that are not planar, some of them with too many ways.
func TestGreatNotPlanar(t *testing.T) {
	must := made(t)
	stack := must(maker.Stack(900, 5))
	for _, row := range []known{
		{"a complete net", must(maker.Complete(78)), 0},
		{"two sides", must(maker.Two(48, 64)), 0},
		{"each edge twice", doubled(must(maker.Two(20, 39))), 0},
		{"a cycle, each edge twice, and two sides of 3", hang(doubled(must(maker.Cycle(900))), must(maker.Two(3, 3)), 5, 6), 0},
		{"triangles, and two sides of 3 on an edge", hang(stack, must(maker.Two(3, 3)), stack.Edges[70][0], stack.Edges[70][1]), 0},
	} {
		t.Run(row.name, func(t *testing.T) {
			t.Parallel()
			r := rand.New(rand.NewSource(281))
			refused(t, shuffled(t, r, row.g), 0, nil, api.ErrPlanar, api.ErrPlanar, api.ErrPlanar)
		})
	}
}

// TestMostEdges: as many nodes and edges as a net may have, and one more.
func TestMostEdges(t *testing.T) {
	t.Parallel()
	must := made(t)
	full := with(must(maker.Stack(1024, 6)), 0, 1, 1, 2, 2, 0, 0, 1, 1, 2, 2, 0)
	if len(full.Edges) != api.MaxEdges {
		t.Fatalf("%d edges", len(full.Edges))
	}
	r := rand.New(rand.NewSource(291))
	n := count(t, full)
	if n != 2*6*6*6 {
		t.Errorf("P18.1: Count of 3,072 edges, three of them thrice: %d", n)
	}
	wayAt(t, r, full, n/3)
	refused(t, with(full, 0, 1), 0, nil, api.ErrArg, api.ErrArg, api.ErrArg)
}
