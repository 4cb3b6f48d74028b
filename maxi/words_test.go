package maxi

import (
	"math/rand"
	"slices"
	"testing"

	"tracery/api"
	"tracery/kura"
	"tracery/net"
	"tracery/planar"
	"tracery/rot"
)

// isPlanar tells whether just these edges of g are.
func isPlanar(t *testing.T, g api.Net, edges ...int) bool {
	t.Helper()
	is, err := planar.Is(made(t)(net.Sub(g, edges)))
	if err != api.OK {
		t.Fatalf("Is(%v of %v): %v", edges, g, err)
	}
	return is
}

// byWords is the greedy part of g in an order of some of its edges, by the chapter's words.
func byWords(t *testing.T, g api.Net, order []int) []int {
	t.Helper()
	var kept []int
	for _, e := range order {
		if isPlanar(t, g, append(slices.Clone(kept), e)...) {
			kept = append(kept, e)
		}
	}
	slices.Sort(kept)
	return kept
}

// leftOut are the edges of g that are not in kept, rising.
func leftOut(g api.Net, kept []int) []int {
	return slices.DeleteFunc(upTo(len(g.Edges)), func(e int) bool { return slices.Contains(kept, e) })
}

// checkKeep: Keep in that order, against the words.
func checkKeep(t *testing.T, name string, g api.Net, order []int) {
	t.Helper()
	kept, err := Keep(g, order)
	if want := byWords(t, g, order); err != api.OK || !slices.Equal(kept, want) {
		t.Fatalf("P14.1: Keep of %s, %v, by %v: %v, %v, not %v", name, g, order, kept, err, want)
	}
}

// checkSub: Sub against Keep in the order of the numbers, and its rotation; and which edges are kept.
func checkSub(t *testing.T, name string, g api.Net) []int {
	t.Helper()
	sub, turn, kept, err := Sub(g)
	want, other := Keep(g, upTo(len(g.Edges)))
	if err != api.OK || other != api.OK || !slices.Equal(kept, want) || !slices.IsSorted(kept) {
		t.Fatalf("P14.1: Sub of %s, %v: keeps %v, %v; Keep by number: %v, %v", name, g, kept, err, want, other)
	}
	if !net.Same(sub, made(t)(net.Sub(g, kept))) {
		t.Fatalf("P14.1: Sub of %s, %v: keeps %v: %v", name, g, kept, sub)
	}
	if err := rot.May(sub, turn); err != api.OK {
		t.Fatalf("P14.1: Sub of %s, %v: %v: %v", name, g, turn, err)
	}
	if genus, err := rot.Genus(sub, turn); genus != 0 || err != api.OK {
		t.Fatalf("P14.1: Sub of %s, %v: %v: genus %d, %v", name, g, turn, genus, err)
	}
	if canon, err := rot.Canon(sub, turn); !sameLists(canon, turn) || err != api.OK {
		t.Fatalf("P14.1: Sub of %s, %v: %v is not Canon", name, g, turn)
	}
	return kept
}

// checkLayers: Layers against Keep of what is left, one layer behind the other; and how many there are.
func checkLayers(t *testing.T, name string, g api.Net) int {
	t.Helper()
	layer, count, err := Layers(g)
	want := make([]int, len(g.Edges))
	left, layers := upTo(len(g.Edges)), 0
	for ; len(left) > 0; layers++ {
		kept, err := Keep(made(t)(net.Sub(g, left)), upTo(len(left)))
		if err != api.OK || len(kept) == 0 {
			t.Fatalf("P14.1: Keep of a rest of %s, %v: %v, %v", name, g, kept, err)
		}
		var rest []int
		for i, e := range left {
			if slices.Contains(kept, i) {
				want[e] = layers
			} else {
				rest = append(rest, e)
			}
		}
		left = rest
	}
	if err != api.OK || count != layers || !slices.Equal(layer, want) {
		t.Fatalf("P14.2: Layers of %s, %v: %v, %d, %v, not %v, %d", name, g, layer, count, err, want, layers)
	}
	return count
}

// checkWhy: Why of an edge, by what proves it.
func checkWhy(t *testing.T, name string, g api.Net, kept []int, e int) {
	t.Helper()
	edges, err := Why(g, e)
	if slices.Contains(kept, e) {
		if err != api.ErrNone || len(edges) != 0 {
			t.Fatalf("P14.3: Why of %s, %v, of %d, which is kept: %v, %v", name, g, e, edges, err)
		}
		return
	}
	if err != api.OK || !slices.IsSorted(edges) || len(edges) == 0 || edges[len(edges)-1] != e {
		t.Fatalf("P14.3: Why of %s, %v, of %d: %v, %v", name, g, e, edges, err)
	}
	for _, other := range edges[:len(edges)-1] {
		if other >= e || !slices.Contains(kept, other) {
			t.Fatalf("P14.3: Why of %s, %v, of %d: %v: %d is not kept ahead of it", name, g, e, edges, other)
		}
	}
	if kind, err := kura.Kind(g, edges); kind == 0 || err != api.OK {
		t.Fatalf("P14.3: Why of %s, %v, of %d: %v: kind %d, %v", name, g, e, edges, kind, err)
	}
}

// certified holds all calls against the chapter's words, Keep in some orders; and tells which edges Sub keeps.
func certified(t *testing.T, r *rand.Rand, name string, g api.Net) []int {
	t.Helper()
	m := len(g.Edges)
	checkKeep(t, name, g, upTo(m))
	checkKeep(t, name, g, downFrom(m-1))
	checkKeep(t, name, g, r.Perm(m))
	kept := checkSub(t, name, g)
	checkLayers(t, name, g)
	for e := range m {
		checkWhy(t, name, g, kept, e)
	}
	return kept
}
