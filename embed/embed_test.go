package embed

import (
	"math/rand"
	"slices"
	"testing"

	"tracery/api"
	"tracery/maker"
	"tracery/net"
	"tracery/planar"
	"tracery/rot"
)

func TestExamples(t *testing.T) {
	must := made(t)
	for _, row := range []struct {
		name string
		g    api.Net
		want int64
		err  api.Errno
	}{
		{"Cycle(5)", must(maker.Cycle(5)), 1, api.OK},
		{"Bond(3)", must(maker.Bond(3)), 2, api.OK},
		{"Bond(5)", must(maker.Bond(5)), 24, api.OK},
		{"Complete(4)", must(maker.Complete(4)), 2, api.OK},
		{"Complete(5)", must(maker.Complete(5)), 0, api.ErrPlanar},
		{"the cycle of 4 with a chord", with(must(maker.Cycle(4)), 0, 2), 2, api.OK},
	} {
		if n, err := Count(row.g); n != row.want || err != row.err {
			t.Errorf("P18.1: Count of %s: %d, %v, not %d, %v", row.name, n, err, row.want, row.err)
		}
	}
}

// row is a net, and all its ways, by hand.
type row struct {
	name string
	g    api.Net
	ways []api.Rot
}

func rows() []row {
	return []row{
		{"a cycle of 3", of(3, 0, 1, 1, 2, 2, 0), []api.Rot{{{0, 5}, {1, 2}, {3, 4}}}},
		{"three edges between two nodes", of(2, 0, 1, 0, 1, 0, 1), []api.Rot{{{0, 2, 4}, {1, 5, 3}}, {{0, 4, 2}, {1, 3, 5}}}},
		{"the same, one of them the other way about", of(2, 0, 1, 1, 0, 0, 1), []api.Rot{{{0, 3, 4}, {1, 5, 2}}, {{0, 4, 3}, {1, 2, 5}}}},
		{"four edges between two nodes", of(2, 0, 1, 0, 1, 0, 1, 0, 1), []api.Rot{
			{{0, 2, 4, 6}, {1, 7, 5, 3}}, {{0, 2, 6, 4}, {1, 5, 7, 3}}, {{0, 4, 2, 6}, {1, 7, 3, 5}},
			{{0, 4, 6, 2}, {1, 3, 7, 5}}, {{0, 6, 2, 4}, {1, 5, 3, 7}}, {{0, 6, 4, 2}, {1, 3, 5, 7}}}},
		{"the cycle of 4 with a chord", of(4, 0, 1, 1, 2, 2, 3, 3, 0, 0, 2), []api.Rot{
			{{0, 7, 8}, {1, 2}, {3, 9, 4}, {5, 6}}, {{0, 8, 7}, {1, 2}, {3, 4, 9}, {5, 6}}}},
		{"a cycle of 3, two edges twice", of(3, 0, 1, 0, 1, 1, 2, 1, 2, 2, 0), []api.Rot{
			{{0, 2, 9}, {1, 4, 6, 3}, {5, 8, 7}}, {{0, 2, 9}, {1, 6, 4, 3}, {5, 7, 8}},
			{{0, 9, 2}, {1, 3, 4, 6}, {5, 8, 7}}, {{0, 9, 2}, {1, 3, 6, 4}, {5, 7, 8}}}},
		{"four nodes, each joined with each", of(4, 0, 1, 0, 2, 0, 3, 1, 2, 1, 3, 2, 3), []api.Rot{
			{{0, 2, 4}, {1, 8, 6}, {3, 7, 10}, {5, 11, 9}}, {{0, 4, 2}, {1, 6, 8}, {3, 10, 7}, {5, 9, 11}}}},
	}
}

// keysOf are the ways as texts, in order.
func keysOf(ways []api.Rot) []string {
	var keys []string
	for _, way := range ways {
		keys = append(keys, key(way))
	}
	slices.Sort(keys)
	return keys
}

// allWays are the ways of g by their numbers; no two of them are the same.
func allWays(t *testing.T, r *rand.Rand, g api.Net) []api.Rot {
	t.Helper()
	var ways []api.Rot
	for k := range count(t, g) {
		ways = append(ways, wayAt(t, r, g, k))
	}
	if keys := keysOf(ways); len(slices.Compact(keys)) != len(ways) {
		t.Fatalf("P18.1: of %v some ways are the same", told(g))
	}
	return ways
}

func TestRows(t *testing.T) {
	r := rand.New(rand.NewSource(201))
	for _, row := range rows() {
		ways := allWays(t, r, row.g)
		if !slices.Equal(keysOf(ways), keysOf(row.ways)) {
			t.Errorf("P18.1: the ways of %s: %v, not %v", row.name, ways, row.ways)
		}
		for _, way := range row.ways {
			numbered(t, r, row.g, way)
		}
		outside(t, row.g, int64(len(ways)))
	}
}

// outside: numbers that no way has are refused.
func outside(t *testing.T, g api.Net, n int64) {
	t.Helper()
	for _, k := range append(strange(), n) {
		if k >= 0 && k < n {
			continue
		}
		if way, err := At(g, k); len(way) != 0 || err != api.ErrBounds {
			t.Errorf("P18.1: At(%v, %d): %v, %v, not ErrBounds", told(g), k, toldWay(way), err)
		}
	}
}

// fewOf is how many ways of a net are looked at at most: a call takes its time where the net is great.
func fewOf(g api.Net) int64 {
	switch {
	case len(g.Edges) > 300:
		return 4
	case len(g.Edges) > 60:
		return 10
	}
	return 40
}

// checkWays looks at the ways of a net that has want, at all if they are few: they are unlike, and each one's mirror is one;
// so is the rotation that is found without them; and a net with a split edge has as many.
func checkWays(t *testing.T, r *rand.Rand, g api.Net, want int64) {
	t.Helper()
	n := count(t, g)
	if n != want {
		t.Fatalf("P18.1: Count(%v): %d, not %d", told(g), n, want)
	}
	seen := map[string]int64{}
	few := fewOf(g)
	for i := range min(n, few) {
		k := i
		if n > few && i > 1 {
			k = r.Int63n(n)
		}
		way := wayAt(t, r, g, k)
		if other, met := seen[key(way)]; met && other != k {
			t.Fatalf("P18.1: At(%v, %d) and At %d are the same: %v", told(g), k, other, toldWay(way))
		}
		seen[key(way)] = k
		mirror, _ := rot.Mirror(g, way)
		back := numbered(t, r, g, mirror)
		if (n > 1) == (back == k) {
			t.Fatalf("P18.2: the mirror of %v, the way %d of %d of %v, has the number %d", toldWay(way), k, n, told(g), back)
		}
	}
	own, _ := planar.Embed(g)
	numbered(t, r, g, own)
	if few > 4 {
		outside(t, g, n)
	}
	split, err := net.Split(g, r.Intn(len(g.Edges)))
	if more := count(t, made(t)(split, err)); more != n {
		t.Fatalf("P18.1: with an edge of %v split there are %d ways, not %d", told(g), more, n)
	}
}

func factorial(n int) int64 {
	all := int64(1)
	for i := 2; i <= n; i++ {
		all *= int64(i)
	}
	return all
}

type known struct {
	name string
	g    api.Net
	ways int64
}

// knownNets are nets of well-known kinds; how many ways each has follows from what it looks like.
func knownNets(t *testing.T) []known {
	t.Helper()
	must := made(t)
	list := []known{
		{"two cycles at two nodes", must(maker.Two(2, 4)), 6},
		{"a cube", must(maker.Prism(4)), 2},
		{"eight faces", of(6, 0, 1, 0, 2, 0, 3, 0, 4, 5, 1, 5, 2, 5, 3, 5, 4, 1, 2, 2, 3, 3, 4, 4, 1), 2},
		{"a complete net of 4, one edge twice", with(must(maker.Complete(4)), 2, 1), 4},
		{"a complete net of 4, one edge gone", without(must(maker.Complete(4)), 3), 2},
		{"a complete net of 5, one edge gone", without(must(maker.Complete(5)), 3), 2},
		{"a complete net of 4, each edge twice", doubled(must(maker.Complete(4))), 128},
		{"a cycle, its edges once, twice, thrice, four times", beads(1, 2, 3, 4), 288},
		{"a cycle of 2 with paths", of(6, 0, 1, 1, 0, 0, 2, 2, 1, 0, 3, 4, 3, 4, 5, 5, 1), 6},
		{"a cycle of 6 with three chords", with(must(maker.Cycle(6)), 0, 2, 2, 4, 4, 0), 8},
		{"a cycle of 6 with two chords from one node", with(must(maker.Cycle(6)), 0, 2, 4, 0), 4},
		{"a cycle of 6 with two chords that cross", with(must(maker.Cycle(6)), 0, 2, 1, 4), 2},
		{"a cycle of 6 with one chord thrice", with(must(maker.Cycle(6)), 0, 3, 3, 0, 0, 3), 24},
	}
	for n := 3; n <= 8; n++ {
		list = append(list,
			known{"a cycle", must(maker.Cycle(n)), 1},
			known{"parallel edges", must(maker.Bond(n)), factorial(n - 1)},
			known{"a wheel", must(maker.Wheel(n)), 2},
			known{"a wheel, each edge twice", doubled(must(maker.Wheel(n))), 1 << (2*n + 1)},
			known{"a prism", must(maker.Prism(n)), 2},
			known{"a row of squares", must(maker.Grid(2, n)), 1 << (n - 2)},
			known{"a grid", must(maker.Grid(3, n)), 2},
			known{"a grid", must(maker.Grid(n, n)), 2},
			known{"two nodes, joined with each of others", must(maker.Two(2, n)), factorial(n - 1)},
			known{"a fan", fan(t, n), 1 << (n - 3)},
			known{"a fan, each edge twice", doubled(fan(t, n)), 1 << n * pow(6, n-3)},
			known{"a cycle, each edge twice", doubled(must(maker.Cycle(n))), 1 << n},
			known{"triangles", must(maker.Stack(n+1, uint64(n))), 2})
	}
	return list
}

func pow(x int64, n int) int64 {
	all := int64(1)
	for range n {
		all *= x
	}
	return all
}

func TestKinds(t *testing.T) {
	for i, row := range knownNets(t) {
		t.Run(row.name, func(t *testing.T) {
			t.Parallel()
			r := rand.New(rand.NewSource(int64(2020 + i)))
			checkWays(t, r, row.g, row.ways)
			checkWays(t, r, shuffled(t, r, row.g), row.ways)
		})
	}
}
