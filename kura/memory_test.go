package kura

import (
	"math/rand"
	"slices"
	"testing"

	"tracery/api"
)

// answer is what any of the calls answers.
type answer struct {
	n     int
	list  []int
	lists [][]int // each a list of its own
	edges [][2]int
	err   api.Errno
}

// nothing tells whether all but the error is zero.
func (a answer) nothing() bool {
	return a.n == 0 && len(a.list) == 0 && len(a.lists) == 0 && len(a.edges) == 0
}

type call struct {
	name string
	ask  func(g api.Net, edges []int) answer
}

func calls() []call {
	return []call{
		{"Kind", func(g api.Net, edges []int) answer {
			kind, err := Kind(g, edges)
			return answer{n: kind, err: err}
		}},
		{"Branch", func(g api.Net, edges []int) answer {
			branch, err := Branch(g, edges)
			return answer{list: branch, err: err}
		}},
		{"Paths", func(g api.Net, edges []int) answer {
			paths, err := Paths(g, edges)
			return answer{lists: paths, err: err}
		}},
		{"Shrink", func(g api.Net, edges []int) answer {
			small, err := Shrink(g, edges)
			return answer{n: small.N, edges: small.Edges, err: err}
		}},
	}
}

func copied(a answer) answer {
	a.list, a.edges, a.lists = slices.Clone(a.list), slices.Clone(a.edges), slices.Clone(a.lists)
	for i, list := range a.lists {
		a.lists[i] = slices.Clone(list)
	}
	return a
}

func sameAnswer(a, b answer) bool {
	return a.n == b.n && slices.Equal(a.list, b.list) && sameLists(a.lists, b.lists) && slices.Equal(a.edges, b.edges) && a.err == b.err
}

// told is what a call is handed.
type told struct {
	g     api.Net
	edges []int
}

// whole is a list with its spare room.
func whole[T any](list []T) []T { return list[:cap(list)] }

// spoil writes over a list, its spare room too.
func spoil[T any](list []T, x T) {
	for i := range whole(list) {
		whole(list)[i] = x
	}
}

// wholeOf is a copy of all that was handed in, spare room and all.
func wholeOf(x told) ([][2]int, []int) {
	return slices.Clone(whole(x.g.Edges)), slices.Clone(whole(x.edges))
}

// roomy are nets and lists of either kind, of neither, and such as are refused, all with spare room.
func roomy(t *testing.T) []told {
	r := rand.New(rand.NewSource(127))
	var list []told
	for _, kind := range nums(5, 33) {
		g := core(t, kind)
		list = append(list,
			told{g, all(g)}, told{g, all(g)[1:]}, told{g, nil}, told{g, nums(0, 0, 99)}, told{g, nums(99, 0, 0)},
			told{api.Net{N: -1, Edges: g.Edges}, all(g)}, told{api.Net{N: 2, Edges: g.Edges}, all(g)})
		for range 6 {
			for range r.Intn(9) {
				g = split(t, g, r.Intn(len(g.Edges)))
			}
			full, edges := hidden(t, r, g, 2, 3)
			list = append(list, told{full, edges})
		}
	}
	for i, x := range list {
		list[i].g.Edges = append(slices.Clone(x.g.Edges), [2]int{8, 8}, [2]int{9, 9})[:len(x.g.Edges)]
		list[i].edges = append(slices.Clone(x.edges), 8, 9)[:len(x.edges)]
	}
	return list
}

// TestNewMemory: answers are the same again, and may be written over: nothing else changes, no other list of the same answer either.
func TestNewMemory(t *testing.T) {
	for _, c := range calls() {
		for _, x := range roomy(t) {
			handed, listed := wholeOf(x)
			first, second := c.ask(x.g, x.edges), c.ask(x.g, x.edges)
			want := copied(second)
			if !sameAnswer(first, want) {
				t.Errorf("P0.5: %s: %v, then %v", c.name, first, want)
			}
			for i, list := range first.lists {
				spoil(list, -7)
				for k := i + 1; k < len(first.lists); k++ {
					if !slices.Equal(first.lists[k], want.lists[k]) {
						t.Errorf("P12.4: %s: the lists %d and %d share memory", c.name, i, k)
					}
				}
			}
			spoil(first.lists, nil)
			spoil(first.list, -7)
			spoil(first.edges, [2]int{-7, -7})
			if third := c.ask(x.g, x.edges); !sameAnswer(second, want) || !sameAnswer(third, want) {
				t.Errorf("P12.4: %s: another answer has changed: %v, %v, not %v", c.name, second, third, want)
			}
			if g, l := wholeOf(x); !slices.Equal(g, handed) || !slices.Equal(l, listed) {
				t.Errorf("P12.4: %s: what was handed in has changed: %v, %v", c.name, g, l)
			}
		}
	}
}

// TestNothingKept: an answer stays when what was handed in is written over.
func TestNothingKept(t *testing.T) {
	for _, c := range calls() {
		for _, x := range roomy(t) {
			got := c.ask(x.g, x.edges)
			want := copied(got)
			spoil(x.g.Edges, [2]int{-7, -7})
			spoil(x.edges, -7)
			if !sameAnswer(got, want) {
				t.Errorf("P12.4: %s: %v, not %v any more", c.name, got, want)
			}
		}
	}
}

// TestSameAgain: the same call has the same answer, whatever was asked between.
func TestSameAgain(t *testing.T) {
	list := roomy(t)
	for _, c := range calls() {
		var first []answer
		for _, x := range list {
			first = append(first, c.ask(x.g, x.edges))
		}
		for i, x := range list {
			if again := c.ask(x.g, x.edges); !sameAnswer(again, first[i]) {
				t.Errorf("P0.5: %s: %v, then %v", c.name, first[i], again)
			}
		}
	}
}

// TestNilAndEmpty: a nil list is the same as an empty one.
func TestNilAndEmpty(t *testing.T) {
	for _, c := range calls() {
		for _, n := range nums(0, 1, 6, 1024) {
			a, b := c.ask(api.Net{N: n}, nil), c.ask(api.Net{N: n, Edges: [][2]int{}}, nums())
			want := api.ErrNone
			if c.name == "Kind" {
				want = api.OK
			}
			if !sameAnswer(a, b) || !a.nothing() || a.err != want {
				t.Errorf("P0.4: %s of %d nodes: %v, %v", c.name, n, a, b)
			}
		}
	}
}
