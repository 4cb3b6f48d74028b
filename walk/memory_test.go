package walk

import (
	"slices"
	"testing"

	"tracery/api"
)

// A call's answer is its lists.
type call struct {
	name string
	ask  func(g api.Net) [][]int
}

func calls() []call {
	lists := func(tour api.Tour, _ api.Errno) [][]int { return [][]int{tour.Order, tour.By, tour.Far, tour.Low} }
	return []call{
		{"Breadth", func(g api.Net) [][]int { return lists(Breadth(g, 0)) }},
		{"Depth", func(g api.Net) [][]int { return lists(Depth(g, 0)) }},
		{"Parts", func(g api.Net) [][]int {
			part, n, _ := Parts(g)
			return [][]int{part, {n}}
		}},
		{"Sides", func(g api.Net) [][]int {
			side, odd, _ := Sides(g)
			return [][]int{side, odd}
		}},
		{"Ring", func(g api.Net) [][]int {
			ring, _ := Ring(g)
			return [][]int{ring}
		}},
	}
}

// roomy are nets with spare room behind their edges: one with an odd cycle and one without, a loop, and one without edges.
func roomy() []api.Net {
	list := []api.Net{example(), of(6, 0, 1, 1, 2, 2, 3, 3, 4, 4, 5, 5, 0, 1, 4), of(3, 1, 1, 1, 2), of(2)}
	for i, g := range list {
		m := len(g.Edges)
		list[i].Edges = append(g.Edges, [2]int{8, 8}, [2]int{9, 9})[:m]
	}
	return list
}

// whole is a list with its spare room.
func whole[T any](list []T) []T { return list[:cap(list)] }

func copied(answer [][]int) [][]int {
	var out [][]int
	for _, list := range answer {
		out = append(out, slices.Clone(list))
	}
	return out
}

func sameLists(a, b [][]int) bool {
	return slices.EqualFunc(a, b, func(x, y []int) bool { return slices.Equal(x, y) })
}

// spoil writes over a list, its spare room too.
func spoil(list []int) {
	for i := range whole(list) {
		whole(list)[i] = -7
	}
}

// TestNewMemory: answers are the same again, and may be written over: nothing else changes, no other list of the same answer either.
func TestNewMemory(t *testing.T) {
	for _, c := range calls() {
		for _, g := range roomy() {
			kept := slices.Clone(whole(g.Edges))
			first, second := c.ask(g), c.ask(g)
			want := copied(second)
			if !sameLists(first, want) {
				t.Errorf("P0.5: %s: %v, then %v", c.name, first, want)
			}
			for i, list := range first {
				spoil(list)
				for j := i + 1; j < len(first); j++ {
					if !slices.Equal(first[j], want[j]) {
						t.Errorf("P6.6: %s: the lists %d and %d share memory", c.name, i, j)
					}
				}
			}
			if third := c.ask(g); !sameLists(second, want) || !sameLists(third, want) {
				t.Errorf("P6.6: %s: another answer has changed: %v, %v, want %v", c.name, second, third, want)
			}
			if !slices.Equal(whole(g.Edges), kept) {
				t.Errorf("P6.6: %s: what was handed in has changed: %v", c.name, whole(g.Edges))
			}
		}
	}
}

// TestNothingKept: an answer stays when what was handed in is written over.
func TestNothingKept(t *testing.T) {
	for _, c := range calls() {
		for _, g := range roomy() {
			got := c.ask(g)
			want := copied(got)
			clear(whole(g.Edges))
			if !sameLists(got, want) {
				t.Errorf("P6.6: %s: %v, not %v any more", c.name, got, want)
			}
		}
	}
}

// TestEachChangesNothing: nor does going over an iterator.
func TestEachChangesNothing(t *testing.T) {
	for _, g := range roomy() {
		kept := slices.Clone(whole(g.Edges))
		for range Each(g, 0) {
		}
		if !slices.Equal(whole(g.Edges), kept) {
			t.Errorf("P6.6: Each: what was handed in has changed: %v", whole(g.Edges))
		}
	}
}

// TestRefusedChangesNothing: nor does a call that is refused.
func TestRefusedChangesNothing(t *testing.T) {
	for _, c := range calls() {
		for _, g := range roomy() {
			kept := slices.Clone(whole(g.Edges))
			c.ask(api.Net{N: 1, Edges: g.Edges})
			c.ask(api.Net{N: -1, Edges: g.Edges})
			if !slices.Equal(whole(g.Edges), kept) {
				t.Errorf("P6.6: %s: what was handed in has changed: %v", c.name, whole(g.Edges))
			}
		}
	}
}

// TestNilAndEmpty: a nil list is the same as an empty one.
func TestNilAndEmpty(t *testing.T) {
	for _, c := range calls() {
		for n := range 3 {
			if a, b := c.ask(api.Net{N: n}), c.ask(api.Net{N: n, Edges: [][2]int{}}); !sameLists(a, b) {
				t.Errorf("P0.4: %s of %d nodes: %v, %v", c.name, n, a, b)
			}
		}
	}
}
