package planar

import (
	"math/rand"
	"slices"
	"testing"

	"tracery/api"
	"tracery/maker"
)

// answer is what any of the calls answers.
type answer struct {
	is   bool
	rot  api.Rot
	list []int
	err  api.Errno
}

// nothing tells whether all but the error is zero.
func (a answer) nothing() bool { return !a.is && len(a.rot) == 0 && len(a.list) == 0 }

type call struct {
	name string
	ask  func(g api.Net) answer
}

func calls() []call {
	return []call{
		{"Test", func(g api.Net) answer {
			v, err := Test(g)
			return answer{is: v.Planar, rot: v.Rot, list: v.Edges, err: err}
		}},
		{"Is", func(g api.Net) answer {
			is, err := Is(g)
			return answer{is: is, err: err}
		}},
		{"Embed", func(g api.Net) answer {
			r, err := Embed(g)
			return answer{rot: r, err: err}
		}},
		{"Block", func(g api.Net) answer {
			edges, err := Block(g)
			return answer{list: edges, err: err}
		}},
		{"With", func(g api.Net) answer {
			is, err := With(g, 0, max(g.N-1, 0))
			return answer{is: is, err: err}
		}},
	}
}

func copied(a answer) answer {
	a.list, a.rot = slices.Clone(a.list), slices.Clone(a.rot)
	for v, list := range a.rot {
		a.rot[v] = slices.Clone(list)
	}
	return a
}

func sameAnswer(a, b answer) bool {
	return a.is == b.is && sameLists(a.rot, b.rot) && slices.Equal(a.list, b.list) && a.err == b.err
}

// whole is a list with its spare room.
func whole[T any](list []T) []T { return list[:cap(list)] }

// spoil writes over a list, its spare room too.
func spoil[T any](list []T, x T) {
	for i := range whole(list) {
		whole(list)[i] = x
	}
}

// roomy are nets of either sort, and such as are refused, all with spare room.
func roomy(t *testing.T) []api.Net {
	t.Helper()
	r := rand.New(rand.NewSource(134))
	must := made(t)
	list := []api.Net{of(0), of(1), of(3), of(-1, 0, 0), of(2, 0, 2), must(maker.Stack(40, 1)), must(maker.Grid(5, 6)), core(t, 5), core(t, 33), petersen()}
	for _, row := range rows(t) {
		if row.g.N < 100 {
			list = append(list, row.g)
		}
	}
	for range 40 {
		list = append(list, some(r, 12, 30), split(t, r, core(t, 5), r.Intn(9)), hung(t, r, must(maker.Wheel(5)), core(t, 33), of(2, 0, 1, 1, 1)))
	}
	for i, g := range list {
		list[i].Edges = append(slices.Clone(g.Edges), [2]int{8, 8}, [2]int{9, 9})[:len(g.Edges)]
	}
	return list
}

// TestNewMemory: answers are the same again, and may be written over: nothing else changes, no other list of the same answer either.
func TestNewMemory(t *testing.T) {
	for _, c := range calls() {
		for _, g := range roomy(t) {
			handed := slices.Clone(whole(g.Edges))
			first, second := c.ask(g), c.ask(g)
			want := copied(second)
			if !sameAnswer(first, want) {
				t.Fatalf("P13.4: %s(%v): %v, then %v", c.name, g, first, want)
			}
			for v, list := range first.rot {
				spoil(list, -7)
				if !sameLists(first.rot[v+1:], want.rot[v+1:]) {
					t.Fatalf("P13.4: %s(%v): the list of %d shares memory", c.name, g, v)
				}
			}
			spoil(first.rot, nil)
			spoil(first.list, -7)
			if third := c.ask(g); !sameAnswer(second, want) || !sameAnswer(third, want) {
				t.Fatalf("P13.4: %s(%v): another answer has changed: %v, %v, not %v", c.name, g, second, third, want)
			}
			if !slices.Equal(whole(g.Edges), handed) {
				t.Fatalf("P13.4: %s: what was handed in has changed: %v, not %v", c.name, whole(g.Edges), handed)
			}
		}
	}
}

// TestNothingKept: an answer stays when what was handed in is written over.
func TestNothingKept(t *testing.T) {
	for _, c := range calls() {
		for _, g := range roomy(t) {
			got := c.ask(g)
			want := copied(got)
			spoil(g.Edges, [2]int{-7, -7})
			if !sameAnswer(got, want) {
				t.Fatalf("P13.4: %s: %v, not %v any more", c.name, got, want)
			}
		}
	}
}

// TestSameAgain: the same net has the same answer, whatever was asked between, and whatever room its list has.
func TestSameAgain(t *testing.T) {
	list := roomy(t)
	for _, c := range calls() {
		var first []answer
		for _, g := range list {
			first = append(first, c.ask(g))
		}
		for i, g := range list {
			if again := c.ask(api.Net{N: g.N, Edges: slices.Clip(slices.Clone(g.Edges))}); !sameAnswer(again, first[i]) {
				t.Fatalf("P13.4: %s(%v): %v, then %v", c.name, g, first[i], again)
			}
		}
	}
}

// TestNilAndEmpty: a nil list is the same as an empty one.
func TestNilAndEmpty(t *testing.T) {
	for _, c := range calls() {
		for _, n := range nums(0, 1, 6, 1024) {
			if a, b := c.ask(api.Net{N: n}), c.ask(api.Net{N: n, Edges: [][2]int{}}); !sameAnswer(a, b) {
				t.Errorf("P0.4: %s of %d nodes: %v, %v", c.name, n, a, b)
			}
		}
	}
}
