package dual

import (
	"math/rand"
	"slices"
	"testing"

	"tracery/api"
)

// answer is what any of the calls answers.
type answer struct {
	lists [][]int // each a list of its own
	edges [][2]int
	n     int
	err   api.Errno
}

// nothing tells whether all but the error is zero.
func (a answer) nothing() bool { return len(a.lists) == 0 && len(a.edges) == 0 && a.n == 0 }

// told is what a call is handed; e and f are edges, or faces.
type told struct {
	g    api.Net
	r    api.Rot
	a, b api.Corner
	e, f int
}

type call struct {
	name string
	ask  func(x told) answer
}

func calls() []call {
	return []call{
		{"Of", func(x told) answer {
			g, r, err := Of(x.g, x.r)
			return answer{r, g.Edges, g.N, err}
		}},
		{"Face", func(x told) answer {
			n, err := Face(x.g, x.r, x.a)
			return answer{nil, nil, n, err}
		}},
		{"Lay", func(x told) answer {
			g, r, err := Lay(x.g, x.r, x.a, x.b)
			return answer{r, g.Edges, g.N, err}
		}},
		{"Take", func(x told) answer {
			g, r, err := Take(x.g, x.r, x.e)
			return answer{r, g.Edges, g.N, err}
		}},
		{"Split", func(x told) answer {
			g, r, err := Split(x.g, x.r, x.e)
			return answer{r, g.Edges, g.N, err}
		}},
		{"Hop", func(x told) answer {
			list, err := Hop(x.g, x.r, x.e, x.f)
			if len(list) == 0 {
				return answer{nil, nil, 0, err}
			}
			return answer{[][]int{list}, nil, 0, err}
		}},
	}
}

// drawnTold: corners, edges and faces that are there, if the net has any.
func drawnTold(r *rand.Rand, g api.Net, x api.Rot) told {
	a := told{g: g, r: x}
	if is := corners(x); len(is) > 0 {
		a.a, a.b = is[r.Intn(len(is))], is[r.Intn(len(is))]
	}
	if len(g.Edges) > 0 {
		a.e, a.f = r.Intn(min(2, len(g.Edges))), r.Intn(2)
	}
	return a
}

// roomy are arguments, some of them refused, all with spare room.
func roomy(t *testing.T) []told {
	g, r := example()
	rnd := rand.New(rand.NewSource(118))
	all := []told{
		{g, r, corner(0, 0), corner(1, 2), 0, 1}, {g, r, corner(0, 0), corner(0, 0), 2, 0}, {g, r, corner(0, 0), corner(1, 1), 1, 1},
		{g, r, corner(0, 5), corner(3, 0), 3, 3}, {g, r[:2], corner(0, 0), corner(1, 2), 0, 1}, {of(1), r, corner(0, -1), corner(0, -1), 0, 0},
		{of(2), api.Rot{nil, {}}, corner(0, -1), corner(1, -1), 0, 1}, {of(1), api.Rot{nil}, corner(0, -1), corner(0, -1), 0, 0}, {g: of(0)},
	}
	for range 20 {
		g := some(rnd, 6, 9)
		all = append(all, drawnTold(rnd, g, shuffled(rnd, g)))
		g, x := drawnPlanar(t, rnd, 1+rnd.Intn(5), rnd.Intn(11))
		all = append(all, drawnTold(rnd, g, x))
	}
	for i, a := range all {
		all[i].g.Edges = append(slices.Clone(a.g.Edges), [2]int{8, 8}, [2]int{9, 9})[:len(a.g.Edges)]
		all[i].r = append(deep(a.r), nums(8), nums(9))[:len(a.r)]
		for v, list := range all[i].r {
			all[i].r[v] = append(list, 8, 9)[:len(list)]
		}
	}
	return all
}

// whole is a list with its spare room.
func whole[T any](list []T) []T { return list[:cap(list)] }

// wholeOf is all that was handed in, spare room and all, as a copy.
func wholeOf(a told) ([][2]int, [][]int) {
	lists := slices.Clone(whole(a.r))
	for i, list := range lists {
		lists[i] = slices.Clone(whole(list))
	}
	return slices.Clone(whole(a.g.Edges)), lists
}

func copyOf(a answer) answer {
	return answer{lists: deep(a.lists), edges: slices.Clone(a.edges), n: a.n, err: a.err}
}

func sameAnswer(a, b answer) bool {
	return equal(a.lists, b.lists) && slices.Equal(a.edges, b.edges) && a.n == b.n && a.err == b.err
}

// spoil writes over a list, its spare room too.
func spoil[T any](list []T, x T) {
	for i := range whole(list) {
		whole(list)[i] = x
	}
}

// TestNewMemory: answers are the same again, and may be written over: nothing else changes, no other list of the same answer either.
func TestNewMemory(t *testing.T) {
	for _, c := range calls() {
		for _, a := range roomy(t) {
			edges, lists := wholeOf(a)
			first, second := c.ask(a), c.ask(a)
			want := copyOf(second)
			if !sameAnswer(first, want) {
				t.Errorf("P0.5: %s: %v, then %v", c.name, first, want)
			}
			for i, list := range first.lists {
				spoil(list, -7)
				for j := i + 1; j < len(first.lists); j++ {
					if !slices.Equal(first.lists[j], want.lists[j]) {
						t.Errorf("P10.6: %s: the lists %d and %d share memory", c.name, i, j)
					}
				}
			}
			spoil(first.lists, nil)
			spoil(first.edges, [2]int{-7, -7})
			if third := c.ask(a); !sameAnswer(second, want) || !sameAnswer(third, want) {
				t.Errorf("P10.6: %s: another answer has changed: %v, %v, want %v", c.name, second, third, want)
			}
			if e, l := wholeOf(a); !slices.Equal(e, edges) || !equal(l, lists) {
				t.Errorf("P10.6: %s: what was handed in has changed: %v, %v", c.name, e, l)
			}
		}
	}
}

// TestNothingKept: an answer stays when what was handed in is written over.
func TestNothingKept(t *testing.T) {
	for _, c := range calls() {
		for _, a := range roomy(t) {
			got := c.ask(a)
			want := copyOf(got)
			for _, list := range whole(a.r) {
				spoil(list, -7)
			}
			spoil(a.r, nums(-7))
			spoil(a.g.Edges, [2]int{-7, -7})
			if !sameAnswer(got, want) {
				t.Errorf("P10.6: %s: %v, not %v any more", c.name, got, want)
			}
		}
	}
}

// TestRefusedChangesNothing: nor does a call that is refused, by the net, the rotation, or what else is handed in.
func TestRefusedChangesNothing(t *testing.T) {
	for _, c := range calls() {
		for _, a := range roomy(t) {
			edges, lists := wholeOf(a)
			before := c.ask(a)
			for _, bad := range []api.Net{{N: -1, Edges: a.g.Edges}, {N: 1025, Edges: a.g.Edges}, {N: a.g.N, Edges: whole(a.g.Edges)}} {
				if got := c.ask(told{bad, a.r, a.a, a.b, a.e, a.f}); got.err != api.ErrArg || !got.nothing() {
					t.Errorf("rot.May's error: %s of %v: %v", c.name, bad, got)
				}
			}
			c.ask(told{a.g, whole(a.r), a.a, a.b, a.e, a.f})
			if got := c.ask(told{a.g, a.r, a.a, corner(-1, -1), -1, 99}); got.err != api.OK && !got.nothing() {
				t.Errorf("P0.2: %s: %v", c.name, got)
			}
			if e, l := wholeOf(a); !slices.Equal(e, edges) || !equal(l, lists) {
				t.Errorf("P0.2: %s: what was handed in has changed: %v, %v", c.name, e, l)
			}
			if again := c.ask(a); !sameAnswer(again, before) {
				t.Errorf("P0.2: %s: %v, then %v", c.name, before, again)
			}
		}
	}
}

// TestSameAgain: great nets have the same answers again, whatever was asked between.
func TestSameAgain(t *testing.T) {
	r := rand.New(rand.NewSource(119))
	var list []told
	for _, g := range great(t) {
		list = append(list, drawnTold(r, g, shuffled(r, g)))
	}
	for _, c := range calls() {
		var first []answer
		for _, a := range list {
			first = append(first, c.ask(a))
		}
		for i, a := range list {
			if again := c.ask(a); !sameAnswer(again, first[i]) {
				t.Errorf("P0.5: %s of %d nodes, %d edges has another answer", c.name, a.g.N, len(a.g.Edges))
			}
		}
	}
}

// TestNilAndEmpty: a nil list is the same as an empty one.
func TestNilAndEmpty(t *testing.T) {
	for _, c := range calls() {
		for n := range 4 {
			empty := make(api.Rot, n)
			for v := range empty {
				empty[v] = []int{}
			}
			alone := corner(n-1, -1)
			a := c.ask(told{api.Net{N: n}, make(api.Rot, n), alone, alone, 0, 0})
			b := c.ask(told{api.Net{N: n, Edges: [][2]int{}}, empty, alone, alone, 0, 0})
			if !sameAnswer(a, b) {
				t.Errorf("P0.4: %s of %d nodes: %v, %v", c.name, n, a, b)
			}
		}
		if a, b := c.ask(told{g: of(0)}), c.ask(told{g: of(0), r: api.Rot{}}); !sameAnswer(a, b) {
			t.Errorf("P0.4: %s of no node: %v, %v", c.name, a, b)
		}
	}
}
