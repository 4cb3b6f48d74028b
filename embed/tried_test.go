package embed

import (
	"math/rand"
	"slices"
	"testing"

	"tracery/api"
	"tracery/block"
	"tracery/maker"
	"tracery/net"
	"tracery/planar"
	"tracery/rot"
)

// mostTried is how many rotations of a net are tried at most.
const mostTried = 60000

// tries: how many rotations g has, at most one more than are tried.
func tries(g api.Net) int {
	first, _ := rot.First(g)
	all := 1
	for _, list := range first {
		for i := 2; i < len(list); i++ {
			all = min(all*i, mostTried+1)
		}
	}
	return all
}

// planarOnes are the planar ones of all rotations of g, each once, Canon.
func planarOnes(g api.Net) []api.Rot {
	r, _ := rot.First(g)
	var found []api.Rot
	var try func(v, from int)
	try = func(v, from int) {
		switch {
		case v == g.N:
			if genus, _ := rot.Genus(g, r); genus == 0 {
				found = append(found, copied(r))
			}
			return
		case from >= len(r[v]):
			try(v+1, 1)
			return
		}
		for i := from; i < len(r[v]); i++ {
			r[v][from], r[v][i] = r[v][i], r[v][from]
			try(v, from+1)
			r[v][from], r[v][i] = r[v][i], r[v][from]
		}
	}
	try(0, 1)
	return found
}

// byTheWords: which error the calls answer of g, by what other packages tell.
func byTheWords(g api.Net) api.Errno {
	whole, err := block.Biconnected(g)
	switch {
	case err != api.OK:
		return err
	case !whole:
		return api.ErrBicon
	case len(g.Edges) < 3:
		return api.ErrSmall
	}
	if is, _ := planar.Is(g); !is {
		return api.ErrPlanar
	}
	return api.OK
}

// tryAll: of a net with few rotations, the ways are just the planar ones, and each planar one has a number of its own.
// It tells whether they were tried.
func tryAll(t *testing.T, r *rand.Rand, g api.Net) bool {
	t.Helper()
	if err := byTheWords(g); err != api.OK {
		refused(t, g, 0, nil, err, err, err)
		return false
	}
	if tries(g) > mostTried {
		return false
	}
	found := planarOnes(g)
	if n := count(t, g); n != int64(len(found)) {
		t.Fatalf("P18.1: Count(%v): %d, but %d rotations are planar", told(g), n, len(found))
	}
	if ways := allWays(t, r, g); !slices.Equal(keysOf(ways), keysOf(found)) {
		t.Fatalf("P18.1: the ways of %v: %v, not %v", told(g), ways, found)
	}
	for _, way := range found {
		numbered(t, r, g, way)
	}
	return true
}

// someWays is how many ways of a net are asked for at most where all rotations are tried.
const someWays = 800

// TestAllTried: small nets of all sorts, those with few ways, by trying all rotations.
func TestAllTried(t *testing.T) {
	for seed := range int64(4) {
		t.Run("drawn", func(t *testing.T) {
			t.Parallel()
			r := rand.New(rand.NewSource(210 + seed))
			tried := 0
			for i := 0; tried < 60; i++ {
				for _, g := range []api.Net{eared(t, r, i%5), some(r, 2+i%5, 3+i%8), more(r, eared(t, r, i%3), r.Intn(3))} {
					if n, _ := Count(g); n <= someWays && tryAll(t, r, g) {
						tried++
					}
				}
			}
		})
	}
}

// TestKnownTried: nets of well-known kinds, and such as are put together of them, by trying all rotations.
func TestKnownTried(t *testing.T) {
	t.Parallel()
	r := rand.New(rand.NewSource(220))
	tried := 0
	var list []api.Net
	for _, row := range knownNets(t) {
		if row.ways > someWays {
			continue
		}
		list = append(list, row.g)
		if tryAll(t, r, shuffled(t, r, row.g)) {
			tried++
		}
	}
	for i := range 80 {
		g := atTwo(t, r, list[r.Intn(len(list))], list[r.Intn(len(list))])
		if i%3 == 0 && len(g.Edges) > 0 {
			g = atTwo(t, r, g, list[r.Intn(len(list))])
		}
		if n, _ := Count(g); n <= someWays && tryAll(t, r, shuffled(t, r, g)) {
			tried++
		}
	}
	if tried < 40 {
		t.Errorf("too few tried: %d", tried)
	}
}

// TestNotPlanarTried: what is not planar has no planar rotation; of the rotations of these nets none has a number.
func TestNotPlanarTried(t *testing.T) {
	t.Parallel()
	must := made(t)
	for _, g := range []api.Net{must(maker.Two(3, 3)), petersen(), with(must(maker.Two(3, 3)), 0, 1), must(net.Split(must(maker.Two(3, 3)), 4))} {
		first, _ := rot.First(g)
		refused(t, g, 0, first, api.ErrPlanar, api.ErrPlanar, api.ErrPlanar)
		if tries(g) <= mostTried && len(planarOnes(g)) > 0 {
			t.Errorf("W2: %v has a planar rotation", told(g))
		}
	}
}

// TestEachRotation: of all rotations of some nets those that are planar have a number, the others none.
func TestEachRotation(t *testing.T) {
	t.Parallel()
	r := rand.New(rand.NewSource(221))
	must := made(t)
	for _, g := range []api.Net{must(maker.Bond(4)), must(maker.Complete(4)), doubled(must(maker.Cycle(3))), with(must(maker.Cycle(4)), 0, 2, 2, 0), must(maker.Two(2, 4)), beads(1, 2, 3)} {
		way, _ := rot.First(g)
		good, bad := 0, 0
		for range 400 {
			for _, list := range way {
				r.Shuffle(len(list), func(a, b int) { list[a], list[b] = list[b], list[a] })
			}
			genus, _ := rot.Genus(g, way)
			if genus == 0 {
				good++
				numbered(t, r, g, way)
				continue
			}
			bad++
			if k, err := Number(g, way); k != 0 || err != api.ErrGenus {
				t.Fatalf("P18.2: Number(%v, %v): %d, %v, but the genus is %d", told(g), toldWay(way), k, err, genus)
			}
		}
		if good == 0 || bad == 0 {
			t.Errorf("of the rotations of %v %d are planar, %d are not", told(g), good, bad)
		}
	}
}
