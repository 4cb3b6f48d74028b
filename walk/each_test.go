package walk

import (
	"math/rand"
	"slices"
	"testing"

	"tracery/api"
)

// gone is what an iterator gives until it is left behind so many.
func gone(most int, each func(func(int, int) bool)) (nodes, far []int) {
	for v, d := range each {
		nodes, far = append(nodes, v), append(far, d)
		if len(nodes) == most {
			break
		}
	}
	return nodes, far
}

// TestEach: the nodes of Breadth with their Far, whenever it is left, and again.
func TestEach(t *testing.T) {
	r := rand.New(rand.NewSource(3))
	nets := append(great(t), example(), of(1), of(1, 0, 0))
	for range 300 {
		nets = append(nets, some(r, 9, 14))
	}
	for _, g := range nets {
		for _, s := range slices.Compact(nums(0, g.N/2, g.N-1)) {
			tour, err := Breadth(g, s)
			if err != api.OK {
				continue
			}
			each := Each(g, s)
			all := len(tour.Order)
			for _, most := range nums(all+1, 1, 2, all-1, all, all+1) {
				want := tour.Order
				if most > 0 && most < all {
					want = want[:most]
				}
				nodes, far := gone(most, each)
				if !slices.Equal(nodes, want) {
					t.Fatalf("P6.5: %v from %d, left behind %d: %v, want %v", g, s, most, nodes, want)
				}
				for i, v := range nodes {
					if far[i] != tour.Far[v] {
						t.Fatalf("P6.5: %v from %d: %d is %d away, want %d", g, s, v, far[i], tour.Far[v])
					}
				}
			}
		}
	}
}

// TestEachStops: when it is told to, it asks no more.
func TestEachStops(t *testing.T) {
	each := Each(of(4, 0, 1, 1, 2, 2, 3), 0)
	for most := 1; most <= 4; most++ {
		asked := 0
		each(func(int, int) bool {
			asked++
			return asked < most
		})
		if asked != most {
			t.Errorf("P6.5: told to stop at %d, asked %d times", most, asked)
		}
	}
}

// TestEachNested: an iterator may be gone over while it is gone over.
func TestEachNested(t *testing.T) {
	each := Each(of(3, 0, 1, 1, 2), 1)
	var got []int
	for v, far := range each {
		for w, away := range each {
			got = append(got, v, far, w, away)
		}
	}
	want := nums(1, 0, 1, 0, 1, 0, 0, 1, 1, 0, 2, 1, 0, 1, 1, 0, 0, 1, 0, 1, 0, 1, 2, 1, 2, 1, 1, 0, 2, 1, 0, 1, 2, 1, 2, 1)
	if !slices.Equal(got, want) {
		t.Errorf("P0.8: %v, want %v", got, want)
	}
}

// TestEachOfNothing: the iterator is there, and has nothing.
func TestEachOfNothing(t *testing.T) {
	for _, g := range append(wrong(), of(0), example()) {
		for _, s := range append(strange(), g.N) {
			each := Each(g, s)
			if each == nil {
				t.Fatalf("P0.8: nil: %d nodes from %d", g.N, s)
			}
			if nodes, _ := gone(-1, each); len(nodes) > 0 {
				t.Fatalf("P6.5: %d nodes from %d: %v", g.N, s, nodes)
			}
		}
	}
}

// TestEachKeepsNothing: it gives the nodes of the net that was handed in, whatever became of the list since.
func TestEachKeepsNothing(t *testing.T) {
	g := of(4, 0, 1, 1, 2, 2, 3)
	each := Each(g, 0)
	for range each {
		g.Edges[1] = [2]int{-9, 99}
	}
	clear(g.Edges)
	if nodes, far := gone(-1, each); !slices.Equal(nodes, nums(0, 1, 2, 3)) || !slices.Equal(far, nums(0, 1, 2, 3)) {
		t.Errorf("P6.6: %v, %v", nodes, far)
	}
}
