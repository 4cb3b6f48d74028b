package rot

import (
	"math/rand"
	"slices"
	"testing"

	"tracery/api"
)

// answer is what any of the calls answers.
type answer struct {
	lists [][]int // each a list of its own
	edges [][2]int
	n     int
	err   api.Errno
}

// nothing tells whether all but the error is zero.
func (a answer) nothing() bool { return len(a.lists) == 0 && len(a.edges) == 0 && a.n == 0 }

type call struct {
	name string
	ask  func(g api.Net, r api.Rot, list []int) answer
}

// single is one list, or nothing, if it is empty.
func single(list []int) [][]int {
	if len(list) == 0 {
		return nil
	}
	return [][]int{list}
}

// rotCalls are the calls that answer lists of a net and a rotation.
func rotCalls() []call {
	return []call{
		{"First", func(g api.Net, r api.Rot, list []int) answer {
			x, e := First(g)
			return answer{lists: x, err: e}
		}},
		{"Faces", func(g api.Net, r api.Rot, list []int) answer {
			x, e := Faces(g, r)
			return answer{lists: x, err: e}
		}},
		{"Of", func(g api.Net, r api.Rot, list []int) answer {
			x, e := Of(g, r)
			return answer{lists: single(x), err: e}
		}},
		{"Mirror", func(g api.Net, r api.Rot, list []int) answer {
			x, e := Mirror(g, r)
			return answer{lists: x, err: e}
		}},
		{"Canon", func(g api.Net, r api.Rot, list []int) answer {
			x, e := Canon(g, r)
			return answer{lists: x, err: e}
		}},
	}
}

func calls() []call {
	return append(rotCalls(),
		call{"May", func(g api.Net, r api.Rot, list []int) answer {
			return answer{err: May(g, r)}
		}},
		call{"Genus", func(g api.Net, r api.Rot, list []int) answer {
			n, e := Genus(g, r)
			return answer{n: n, err: e}
		}},
		call{"Same", func(g api.Net, r api.Rot, list []int) answer {
			ok, e := Same(g, r, r)
			return answer{n: map[bool]int{true: 1}[ok], err: e}
		}},
		call{"Sub", func(g api.Net, r api.Rot, list []int) answer {
			s, x, e := Sub(g, r, list)
			return answer{lists: x, edges: s.Edges, n: s.N, err: e}
		}},
		call{"Moved", func(g api.Net, r api.Rot, list []int) answer {
			s, x, e := Moved(g, r, list)
			return answer{lists: x, edges: s.Edges, n: s.N, err: e}
		}},
	)
}

// told is what a call is handed.
type told struct {
	g    api.Net
	r    api.Rot
	list []int
}

// roomy are nets with rotations, and lists of as many edges as nodes (or of what is refused), all with spare room.
func roomy() []told {
	g, r := example()
	rnd := rand.New(rand.NewSource(99))
	all := []told{
		{g, r, nums(1, 0)}, {g, r, nums(2, 0)}, {g, r, nums(0, 0)}, {g, r, nil},
		{of(3, 1, 1), api.Rot{nil, {1, 0}, nil}, nums(0)}, {of(0), nil, nil}, {of(2), api.Rot{nil, {}}, nums(1, 0)},
		{of(1, 0, 0, 0, 0), api.Rot{{3, 0, 2, 1}}, nums(0)}, {g, r[:1], nums(1, 0)}, {of(1), r, nums(0)},
	}
	for range 20 {
		g := some(rnd, 6, 9)
		all = append(all, told{g, shuffled(rnd, g), rnd.Perm(min(g.N, len(g.Edges)))})
	}
	for i, a := range all {
		all[i].g.Edges = append(slices.Clone(a.g.Edges), [2]int{8, 8}, [2]int{9, 9})[:len(a.g.Edges)]
		all[i].list = append(slices.Clone(a.list), 8, 9)[:len(a.list)]
		all[i].r = append(deep(a.r), nums(8), nums(9))[:len(a.r)]
		for v, list := range all[i].r {
			all[i].r[v] = append(list, 8, 9)[:len(list)]
		}
	}
	return all
}

// whole is a list with its spare room.
func whole[T any](list []T) []T { return list[:cap(list)] }

// wholeOf is all that was handed in, spare room and all, as a copy.
func wholeOf(a told) ([][2]int, []int, [][]int) {
	lists := slices.Clone(whole(a.r))
	for i, list := range lists {
		lists[i] = slices.Clone(whole(list))
	}
	return slices.Clone(whole(a.g.Edges)), slices.Clone(whole(a.list)), lists
}

func copied(a answer) answer {
	return answer{lists: deep(a.lists), edges: slices.Clone(a.edges), n: a.n, err: a.err}
}

func sameAnswer(a, b answer) bool {
	return equal(a.lists, b.lists) && slices.Equal(a.edges, b.edges) && a.n == b.n && a.err == b.err
}

// spoil writes over a list, its spare room too.
func spoil[T any](list []T, x T) {
	for i := range whole(list) {
		whole(list)[i] = x
	}
}

// TestNewMemory: answers are the same again, and may be written over: nothing else changes, no other list of the same answer either.
func TestNewMemory(t *testing.T) {
	for _, c := range calls() {
		for _, a := range roomy() {
			edges, list, lists := wholeOf(a)
			first, second := c.ask(a.g, a.r, a.list), c.ask(a.g, a.r, a.list)
			want := copied(second)
			if !sameAnswer(first, want) {
				t.Errorf("P0.5: %s: %v, then %v", c.name, first, want)
			}
			for i, list := range first.lists {
				spoil(list, -7)
				for j := i + 1; j < len(first.lists); j++ {
					if !slices.Equal(first.lists[j], want.lists[j]) {
						t.Errorf("P9.5: %s: the lists %d and %d share memory", c.name, i, j)
					}
				}
			}
			spoil(first.lists, nil)
			spoil(first.edges, [2]int{-7, -7})
			if third := c.ask(a.g, a.r, a.list); !sameAnswer(second, want) || !sameAnswer(third, want) {
				t.Errorf("P9.5: %s: another answer has changed: %v, %v, want %v", c.name, second, third, want)
			}
			e, l, ls := wholeOf(a)
			if !slices.Equal(e, edges) || !slices.Equal(l, list) || !equal(ls, lists) {
				t.Errorf("P9.5: %s: what was handed in has changed: %v, %v, %v", c.name, e, l, ls)
			}
		}
	}
}

// TestNothingKept: an answer stays when what was handed in is written over.
func TestNothingKept(t *testing.T) {
	for _, c := range calls() {
		for _, a := range roomy() {
			got := c.ask(a.g, a.r, a.list)
			want := copied(got)
			for _, list := range whole(a.r) {
				spoil(list, -7)
			}
			spoil(a.r, nums(-7))
			spoil(a.list, -7)
			spoil(a.g.Edges, [2]int{-7, -7})
			if !sameAnswer(got, want) {
				t.Errorf("P9.5: %s: %v, not %v any more", c.name, got, want)
			}
		}
	}
}

// TestRefusedChangesNothing: nor does a call that is refused, by the net or by the rotation.
func TestRefusedChangesNothing(t *testing.T) {
	for _, c := range calls() {
		for _, a := range roomy() {
			edges, list, lists := wholeOf(a)
			before := c.ask(a.g, a.r, a.list)
			for _, bad := range []api.Net{{N: -1, Edges: a.g.Edges}, {N: 1025, Edges: a.g.Edges}, {N: a.g.N, Edges: whole(a.g.Edges)}} {
				if got := c.ask(bad, a.r, a.list); got.err != api.ErrArg || !got.nothing() {
					t.Errorf("P9.1: %s of %v: %v", c.name, bad, got)
				}
			}
			c.ask(a.g, whole(a.r), whole(a.list))
			e, l, ls := wholeOf(a)
			if !slices.Equal(e, edges) || !slices.Equal(l, list) || !equal(ls, lists) {
				t.Errorf("P0.2: %s: what was handed in has changed: %v, %v, %v", c.name, e, l, ls)
			}
			if again := c.ask(a.g, a.r, a.list); !sameAnswer(again, before) {
				t.Errorf("P0.2: %s: %v, then %v", c.name, before, again)
			}
		}
	}
}

// TestSameAgain: great nets have the same answers again, whatever was asked between.
func TestSameAgain(t *testing.T) {
	r := rand.New(rand.NewSource(100))
	var list []told
	for _, g := range great(t) {
		list = append(list, told{g, shuffled(r, g), r.Perm(min(g.N, len(g.Edges)))})
	}
	for _, c := range calls() {
		var first []answer
		for _, a := range list {
			first = append(first, c.ask(a.g, a.r, a.list))
		}
		for i, a := range list {
			if again := c.ask(a.g, a.r, a.list); !sameAnswer(again, first[i]) {
				t.Errorf("P0.5: %s of %d nodes, %d edges has another answer", c.name, a.g.N, len(a.g.Edges))
			}
		}
	}
}

// TestNilAndEmpty: a nil list is the same as an empty one.
func TestNilAndEmpty(t *testing.T) {
	for _, c := range calls() {
		for n := range 4 {
			empty := make(api.Rot, n)
			for v := range empty {
				empty[v] = []int{}
			}
			a, b := c.ask(api.Net{N: n}, make(api.Rot, n), nil), c.ask(api.Net{N: n, Edges: [][2]int{}}, empty, []int{})
			if !sameAnswer(a, b) {
				t.Errorf("P0.4: %s of %d nodes: %v, %v", c.name, n, a, b)
			}
		}
		if a, b := c.ask(of(0), nil, nil), c.ask(of(0), api.Rot{}, nil); !sameAnswer(a, b) {
			t.Errorf("P0.4: %s of no node: %v, %v", c.name, a, b)
		}
	}
}
