package net

import (
	"slices"
	"testing"

	"tracery/api"
)

// An answer is all that a call answers, but for its error.
type answer struct {
	n     int
	edges [][2]int
	list  []int
}

func copied(a answer) answer {
	return answer{a.n, slices.Clone(a.edges), slices.Clone(a.list)}
}

func (a answer) is(b answer) bool {
	return a.n == b.n && slices.Equal(a.edges, b.edges) && slices.Equal(a.list, b.list)
}

// spoil writes over an answer, its spare room too.
func (a answer) spoil() {
	for i := range a.edges[:cap(a.edges)] {
		a.edges[:cap(a.edges)][i] = [2]int{-7, -7}
	}
	for i := range a.list[:cap(a.list)] {
		a.list[:cap(a.list)][i] = -7
	}
}

// A call is asked with a net and a list, of which it takes what it needs.
type call struct {
	name string
	ask  func(g api.Net, l []int) (answer, api.Errno)
}

func calls() []call {
	withList := func(g api.Net, l []int, e api.Errno) (answer, api.Errno) { return answer{g.N, g.Edges, l}, e }
	net := func(g api.Net, e api.Errno) (answer, api.Errno) { return answer{g.N, g.Edges, nil}, e }
	list := func(l []int, e api.Errno) (answer, api.Errno) { return answer{0, nil, l}, e }
	return []call{
		{"Out", func(g api.Net, l []int) (answer, api.Errno) { return list(Out(g, 2)) }},
		{"Degrees", func(g api.Net, l []int) (answer, api.Errno) { return list(Degrees(g)) }},
		{"Sub", func(g api.Net, l []int) (answer, api.Errno) { return net(Sub(g, l)) }},
		{"Part", func(g api.Net, l []int) (answer, api.Errno) { return withList(Part(g, l)) }},
		{"Split", func(g api.Net, l []int) (answer, api.Errno) { return net(Split(g, 3)) }},
		{"Merge", func(g api.Net, l []int) (answer, api.Errno) { return withList(Merge(g, 1, 0)) }},
		{"Join", func(g api.Net, l []int) (answer, api.Errno) { return net(Join(g, g)) }},
		{"Join to none", func(g api.Net, l []int) (answer, api.Errno) { return net(Join(g, api.Net{})) }},
		{"Join of none", func(g api.Net, l []int) (answer, api.Errno) { return net(Join(api.Net{}, g)) }},
		{"Moved", func(g api.Net, l []int) (answer, api.Errno) { return net(Moved(g, l)) }},
		{"Bare", func(g api.Net, l []int) (answer, api.Errno) { return withList(Bare(g)) }},
		{"Bare of a bare one", func(g api.Net, l []int) (answer, api.Errno) {
			return withList(Bare(api.Net{N: g.N, Edges: g.Edges[:1]}))
		}},
	}
}

// roomy has the example's edges, a list of its nodes, and spare room behind both.
func roomy() ([][2]int, []int) {
	return append(example().Edges, [2]int{8, 8}, [2]int{9, 9}), []int{2, 0, 1, 8, 9}
}

// TestNewMemory: what is answered may be written over, and neither what was handed in nor another answer changes.
func TestNewMemory(t *testing.T) {
	for _, c := range calls() {
		edges, list := roomy()
		keptEdges, keptList := slices.Clone(edges), slices.Clone(list)
		g, l := api.Net{N: 3, Edges: edges[:4]}, list[:3]
		first, e1 := c.ask(g, l)
		second, e2 := c.ask(g, l)
		want := copied(second)
		if e1 != api.OK || e2 != api.OK || !first.is(second) {
			t.Errorf("P0.5: %s: %v, %v, then %v, %v", c.name, first, e1, second, e2)
		}
		first.spoil()
		if !slices.Equal(edges, keptEdges) || !slices.Equal(list, keptList) {
			t.Errorf("P3.7: %s: what was handed in has changed: %v, %v", c.name, edges, list)
		}
		if third, _ := c.ask(g, l); !second.is(want) || !third.is(want) {
			t.Errorf("P3.7: %s: another answer has changed: %v, %v", c.name, second, third)
		}
	}
}

// TestNothingKept: an answer stays when what was handed in is written over.
func TestNothingKept(t *testing.T) {
	for _, c := range calls() {
		edges, list := roomy()
		got, _ := c.ask(api.Net{N: 3, Edges: edges[:4]}, list[:3])
		want := copied(got)
		answer{0, edges, list}.spoil()
		if !got.is(want) {
			t.Errorf("P3.7: %s: %v, not %v any more", c.name, got, want)
		}
	}
}

// TestRefusedChangesNothing: nor does a call that answers an error.
func TestRefusedChangesNothing(t *testing.T) {
	for _, c := range calls() {
		for _, n := range []int{3, 2, -1} {
			edges, list := roomy()
			list[1] = list[0]
			keptEdges, keptList := slices.Clone(edges), slices.Clone(list)
			c.ask(api.Net{N: n, Edges: edges[:4]}, list[:3])
			if !slices.Equal(edges, keptEdges) || !slices.Equal(list, keptList) {
				t.Errorf("P3.7: %s: what was handed in has changed: %v, %v", c.name, edges, list)
			}
		}
	}
}
