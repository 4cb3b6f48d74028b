package block

import (
	"slices"
	"testing"

	"tracery/api"
)

// answer is what any of the calls answers.
type answer struct {
	lists [][]int // each a list of its own; of Ear, the answer itself
	edges [][2]int
	err   api.Errno
}

type call struct {
	name string
	ask  func(g api.Net) answer
}

func calls() []call {
	return []call{
		{"Blocks", func(g api.Net) answer {
			b, e := Blocks(g)
			return answer{lists: [][]int{b.Of, b.Cuts, {b.Count}}, err: e}
		}},
		{"Bridges", func(g api.Net) answer {
			list, e := Bridges(g)
			return answer{lists: [][]int{list}, err: e}
		}},
		{"Tree", func(g api.Net) answer {
			tree, e := Tree(g)
			return answer{lists: [][]int{{tree.N}}, edges: tree.Edges, err: e}
		}},
		{"Biconnected", func(g api.Net) answer {
			ok, e := Biconnected(g)
			return answer{lists: make([][]int, map[bool]int{true: 1}[ok]), err: e}
		}},
		{"Ear", func(g api.Net) answer {
			list, e := Ear(g)
			return answer{lists: list, err: e}
		}},
	}
}

// roomy are nets with spare room behind their edges: several blocks, one with ears, loops, an edge, and none.
func roomy() []api.Net {
	list := []api.Net{
		example(), of(4, 0, 1, 1, 2, 2, 3, 3, 0, 0, 2, 1, 3, 0, 1), of(2, 0, 1, 1, 0, 0, 1),
		of(3, 1, 1, 1, 1, 1, 2), of(2, 0, 1), of(6, 0, 1, 1, 2, 3, 4, 4, 5, 5, 3), of(2), of(0),
	}
	for i, g := range list {
		m := len(g.Edges)
		list[i].Edges = append(g.Edges, [2]int{8, 8}, [2]int{9, 9})[:m]
	}
	return list
}

// whole is a list with its spare room.
func whole[T any](list []T) []T { return list[:cap(list)] }

func copied(a answer) answer {
	b := answer{edges: slices.Clone(a.edges), err: a.err}
	for _, list := range a.lists {
		b.lists = append(b.lists, slices.Clone(list))
	}
	return b
}

func sameAnswer(a, b answer) bool {
	return slices.EqualFunc(a.lists, b.lists, func(x, y []int) bool { return slices.Equal(x, y) }) &&
		slices.Equal(a.edges, b.edges) && a.err == b.err
}

// spoil writes over a list, its spare room too.
func spoil[T any](list []T, x T) {
	for i := range whole(list) {
		whole(list)[i] = x
	}
}

// TestNewMemory: answers are the same again, and may be written over: nothing else changes, no other list of the same answer either.
func TestNewMemory(t *testing.T) {
	for _, c := range calls() {
		for _, g := range roomy() {
			kept := slices.Clone(whole(g.Edges))
			first, second := c.ask(g), c.ask(g)
			want := copied(second)
			if !sameAnswer(first, want) {
				t.Errorf("P0.5: %s: %v, then %v", c.name, first, want)
			}
			for i, list := range first.lists {
				spoil(list, -7)
				for j := i + 1; j < len(first.lists); j++ {
					if !slices.Equal(first.lists[j], want.lists[j]) {
						t.Errorf("P8.4: %s: the lists %d and %d share memory", c.name, i, j)
					}
				}
			}
			spoil(first.lists, nil)
			spoil(first.edges, [2]int{-7, -7})
			if third := c.ask(g); !sameAnswer(second, want) || !sameAnswer(third, want) {
				t.Errorf("P8.4: %s: another answer has changed: %v, %v, want %v", c.name, second, third, want)
			}
			if !slices.Equal(whole(g.Edges), kept) {
				t.Errorf("P0.3: %s: what was handed in has changed: %v", c.name, whole(g.Edges))
			}
		}
	}
}

// TestNothingKept: an answer stays when what was handed in is written over.
func TestNothingKept(t *testing.T) {
	for _, c := range calls() {
		for _, g := range roomy() {
			got := c.ask(g)
			want := copied(got)
			spoil(g.Edges, [2]int{-7, -7})
			if !sameAnswer(got, want) {
				t.Errorf("P0.3: %s: %v, not %v any more", c.name, got, want)
			}
		}
	}
}

// TestRefusedChangesNothing: nor does a call that is refused.
func TestRefusedChangesNothing(t *testing.T) {
	for _, c := range calls() {
		for _, g := range roomy() {
			kept := slices.Clone(whole(g.Edges))
			for _, bad := range []api.Net{{N: -1, Edges: g.Edges}, {N: 1025, Edges: g.Edges}, {N: g.N, Edges: whole(g.Edges)}} {
				if a := c.ask(bad); a.err != api.ErrArg {
					t.Errorf("P8.1: %s of %v: %v", c.name, bad, a)
				}
			}
			if !slices.Equal(whole(g.Edges), kept) {
				t.Errorf("P0.3: %s: what was handed in has changed: %v", c.name, whole(g.Edges))
			}
		}
	}
}

// TestSameAgain: great nets have the same answers again, whatever was asked between.
func TestSameAgain(t *testing.T) {
	list := great(t)
	for _, c := range calls() {
		var first []answer
		for _, g := range list {
			first = append(first, c.ask(g))
		}
		for i, g := range list {
			if again := c.ask(g); !sameAnswer(again, first[i]) {
				t.Errorf("P0.5: %s of %d nodes, %d edges has another answer", c.name, g.N, len(g.Edges))
			}
		}
	}
}

// TestNilAndEmpty: a nil list is the same as an empty one.
func TestNilAndEmpty(t *testing.T) {
	for _, c := range calls() {
		for n := range 4 {
			if a, b := c.ask(api.Net{N: n}), c.ask(api.Net{N: n, Edges: [][2]int{}}); !sameAnswer(a, b) {
				t.Errorf("P0.4: %s of %d nodes: %v, %v", c.name, n, a, b)
			}
		}
	}
}
