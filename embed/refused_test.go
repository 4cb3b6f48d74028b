package embed

import (
	"math"
	"math/rand"
	"slices"
	"testing"

	"tracery/api"
	"tracery/maker"
	"tracery/rot"
)

// rubbish are rotations that no net has which has an edge.
func rubbish() []api.Rot {
	return []api.Rot{nil, {}, {nil}, {nil, nil}, {{0}}, {{-1}, {math.MaxInt}}, make(api.Rot, 1024), make(api.Rot, 1025), {slices.Repeat([]int{0}, 7000)}, {{math.MinInt, math.MinInt + 1}, {1 << 62}, {1 << 32, -1 << 32}}}
}

// all: g is refused by each call with the error, whatever else is handed in.
func all(t *testing.T, name string, g api.Net, err api.Errno) {
	t.Helper()
	t.Run(name, func(t *testing.T) {
		first, _ := rot.First(g)
		list := append(rubbish(), first)
		numbers := append(strange(), 0, 1)
		for i, r := range list {
			refused(t, g, numbers[i%len(numbers)], r, err, err, err)
		}
		for _, k := range numbers {
			if way, got := At(g, k); len(way) != 0 || got != err {
				t.Errorf("P18.1: At(%v, %d): %v, %v, not %v", told(g), k, toldWay(way), got, err)
			}
		}
	})
}

// atNode is both nets with one node in common.
func atNode(a, b api.Net) api.Net {
	g := wider(a, b.N-1)
	for _, ends := range b.Edges {
		g.Edges = append(g.Edges, [2]int{max(0, a.N-1+ends[0]), max(0, a.N-1+ends[1])})
	}
	return g
}

func TestRefused(t *testing.T) {
	must := made(t)
	path, k5, k33, b17 := must(maker.Path(4)), must(maker.Complete(5)), must(maker.Two(3, 3)), must(maker.Bond(17))
	for _, row := range []struct {
		name string
		g    api.Net
	}{
		{"fewer nodes than none", of(-1)},
		{"a node too many", of(1025)},
		{"an edge too many", of(2, slices.Repeat([]int{0, 1}, 3073)...)},
		{"an end that is no node", of(3, 0, 1, 1, 2, 2, 3)},
		{"an end below 0", of(3, 0, 1, 1, 2, 2, -1)},
		{"no nodes, but edges", of(0, 0, 0)},
		{"not planar, and an end that is no node", with(k5, 0, 5)},
		{"too many ways, and an end that is no node", with(b17, 0, math.MaxInt)},
		{"a great number of nodes", of(math.MaxInt, 0, 1, 0, 1, 0, 1)},
		{"the least number of nodes", of(math.MinInt, 0, 1, 0, 1, 0, 1)},
	} {
		all(t, row.name, row.g, api.ErrArg)
	}
	for _, row := range []struct {
		name string
		g    api.Net
	}{
		{"no node", of(0)},
		{"one node", of(1)},
		{"one node, loops", of(1, 0, 0, 0, 0, 0, 0)},
		{"two nodes, no edge", of(2)},
		{"two nodes, a loop", of(2, 0, 1, 1, 1)},
		{"three edges and a loop", of(2, 0, 1, 1, 1, 0, 1, 0, 1)},
		{"two edges in a row", of(3, 0, 1, 1, 2)},
		{"a path", path},
		{"two cycles at a node", of(5, 0, 1, 1, 2, 2, 0, 2, 3, 3, 4, 4, 2)},
		{"two cycles", of(6, 0, 1, 1, 2, 2, 0, 3, 4, 4, 5, 5, 3)},
		{"a cycle and a node", of(4, 0, 1, 1, 2, 2, 0)},
		{"a cycle with an edge that hangs on it", of(4, 0, 1, 1, 2, 2, 0, 2, 3)},
		{"a net that is not planar, twice at a node", atNode(k5, k33)},
		{"a net that is not planar, and a node", wider(k5, 1)},
		{"a net that is not planar, and a loop", with(k33, 2, 2)},
		{"too many ways, and a node", wider(b17, 1)},
		{"too many ways, and an edge that hangs on it", with(wider(b17, 1), 1, 2)},
		{"1,024 nodes", of(1024)},
	} {
		all(t, row.name, row.g, api.ErrBicon)
	}
	all(t, "one edge", of(2, 0, 1), api.ErrSmall)
	all(t, "two edges", of(2, 0, 1, 0, 1), api.ErrSmall)
	all(t, "two edges, one the other way about", of(2, 0, 1, 1, 0), api.ErrSmall)
}

func TestRefusedNotPlanar(t *testing.T) {
	must := made(t)
	k5, k33, two7 := must(maker.Complete(5)), must(maker.Two(3, 3)), must(maker.Two(7, 7))
	many := slices.Repeat([]int{0, 1}, 20)
	for _, row := range []struct {
		name string
		g    api.Net
	}{
		{"a complete net of 5", k5},
		{"a complete net of 6", must(maker.Complete(6))},
		{"two sides of 3", k33},
		{"the net of Petersen", petersen()},
		{"two sides of 3, an edge twice", with(k33, 0, 3)},
		{"too many ways: an edge 21 times", with(k5, many...)},
		{"too many ways: each edge twice", doubled(two7)},
		{"too many ways: edges often between nodes that were not joined", with(k33, slices.Repeat([]int{0, 1}, 18)...)},
		{"a ring with a part that is not planar", with(wider(k33, 1), 0, 6, 6, 1)},
	} {
		all(t, row.name, row.g, api.ErrPlanar)
	}
}

// extremes are lists of counts of edges, for beads: their factorials multiplied are the greatest product below a bound, and the least above it.
// All nets have as many ways as such a product, so none comes nearer.
func extremes(bound int64) (below, above []int) {
	least, most := int64(0), int64(math.MaxInt64)
	var counts []int
	var try func(count int, all int64)
	try = func(count int, all int64) {
		if all < bound && all > least {
			least, below = all, slices.Clone(counts)
		}
		if all > bound {
			if all < most {
				most, above = all, slices.Clone(counts)
			}
			return
		}
		for c := count; c >= 2; c-- {
			if all > 4*bound/factorial(c) {
				continue // far above
			}
			counts = append(counts, c)
			try(c, all*factorial(c))
			counts = counts[:len(counts)-1]
		}
	}
	try(15, 1)
	return below, above
}

// TestMany: nets of just 2^40 ways, and of as few less and as few more as cycles with parallel edges can have.
func TestMany(t *testing.T) {
	t.Parallel()
	r := rand.New(rand.NewSource(261))
	must := made(t)
	below, above := extremes(api.MaxWays)
	ways := int64(1)
	for _, c := range below {
		ways *= factorial(c)
	}
	if ways >= api.MaxWays || ways < api.MaxWays/100*98 {
		t.Fatalf("the product below is %d", ways)
	}
	checkWays(t, r, shuffled(t, r, beads(append(below, 1, 1, 1)...)), ways)
	twice := slices.Repeat([]int{2}, 40)
	rigids := hung(t, 40)
	for _, g := range []api.Net{beads(twice...), doubled(must(maker.Cycle(40))), must(maker.Grid(2, 42)), rigids} {
		checkWays(t, r, shuffled(t, r, g), api.MaxWays)
	}
	b15 := must(maker.Bond(15))
	checkWays(t, r, b15, 87178291200)
	checkWays(t, r, shuffled(t, r, must(maker.Two(2, 15))), 87178291200)
	for _, row := range []struct {
		name string
		g    api.Net
	}{
		{"the least product above", beads(append(above, 1, 1, 1)...)},
		{"2^41 ways: Sheaves", beads(append(twice, 2)...)},
		{"2^41 ways: Rigids", hung(t, 41)},
		{"2^41 ways: a row of squares", must(maker.Grid(2, 43))},
		{"2^40 times 3", beads(append(twice[1:], 3)...)},
		{"one Sheaf of 16", must(maker.Bond(16))},
		{"one Sheaf of 17", must(maker.Bond(17))},
		{"one Sheaf of 16 Rings", must(maker.Two(2, 16))},
		{"one Sheaf of 22, whose ways are more than int64 holds", must(maker.Bond(22))},
		{"2^64 ways", beads(slices.Repeat([]int{2}, 64)...)},
		{"2^63 ways", beads(slices.Repeat([]int{2}, 63)...)},
		{"2^128 ways", beads(slices.Repeat([]int{2}, 128)...)},
	} {
		all(t, row.name, row.g, api.ErrMany)
	}
}

// hung is a cycle, each edge of which is a complete net of 4 without an edge.
func hung(t *testing.T, count int) api.Net {
	t.Helper()
	g := of(count)
	for v := range count {
		next, x := (v+1)%count, g.N
		g = with(wider(g, 2), v, x, x, next, v, x+1, x+1, next, x, x+1)
	}
	return g
}

// wrongForms are rotations that are none of g, made of one that is.
func wrongForms(way api.Rot) []api.Rot {
	var list []api.Rot
	change := func(do func(r api.Rot) api.Rot) { list = append(list, do(copied(way))) }
	last := len(way) - 1
	for v := range way {
		change(func(r api.Rot) api.Rot { r[v] = r[v][1:]; return r })
		change(func(r api.Rot) api.Rot { r[v] = append(r[v], r[v][0]); return r })
		change(func(r api.Rot) api.Rot { r[v][0] = r[v][1]; return r })
		change(func(r api.Rot) api.Rot { r[v][0] = -1; return r })
		change(func(r api.Rot) api.Rot { r[v][0] = math.MaxInt; return r })
		change(func(r api.Rot) api.Rot { r[v][0] ^= 1; return r })
		change(func(r api.Rot) api.Rot { r[v] = nil; return r })
	}
	change(func(r api.Rot) api.Rot { return r[:last] })
	change(func(r api.Rot) api.Rot { return append(r, nil) })
	change(func(r api.Rot) api.Rot { return append(r, []int{0}) })
	change(func(r api.Rot) api.Rot { r[0], r[last] = r[last], r[0]; return r })
	change(func(r api.Rot) api.Rot { r[0][0], r[last][0] = r[last][0], r[0][0]; return r })
	return append(list, rubbish()...)
}

// TestWrongRotations: what is no rotation of a net that has ways, and what is one that is not planar.
func TestWrongRotations(t *testing.T) {
	t.Parallel()
	r := rand.New(rand.NewSource(262))
	must := made(t)
	for _, g := range []api.Net{must(maker.Bond(3)), must(maker.Complete(4)), with(must(maker.Cycle(5)), 0, 2, 2, 4), beads(1, 2, 3), must(maker.Cycle(3)), must(maker.Wheel(5)), hung(t, 3)} {
		way := wayAt(t, r, g, count(t, g)-1)
		for _, wrong := range wrongForms(way) {
			if k, err := Number(g, wrong); k != 0 || err != api.ErrRot {
				t.Errorf("P18.2: Number(%v, %v): %d, %v, not ErrRot", told(g), toldWay(wrong), k, err)
			}
		}
		bent := copied(way)
		for v, list := range bent {
			for i := range list {
				for j := range i {
					list[i], list[j] = list[j], list[i]
					checkBent(t, r, g, bent, v)
					list[i], list[j] = list[j], list[i]
				}
			}
		}
	}
	if k, err := Number(must(maker.Bond(3)), api.Rot{{0, 2, 4}, {1, 3, 5}}); k != 0 || err != api.ErrGenus {
		t.Errorf("P18.2: Number of a rotation of genus 1: %d, %v", k, err)
	}
}

// checkBent: a rotation with two half-edges at v in each other's place has a number just if it is planar.
func checkBent(t *testing.T, r *rand.Rand, g api.Net, bent api.Rot, v int) {
	t.Helper()
	if genus, _ := rot.Genus(g, bent); genus == 0 {
		numbered(t, r, g, bent)
		return
	}
	if k, err := Number(g, bent); k != 0 || err != api.ErrGenus {
		t.Errorf("P18.2: Number(%v, %v), bent at %d: %d, %v, not ErrGenus", told(g), toldWay(bent), v, k, err)
	}
}
