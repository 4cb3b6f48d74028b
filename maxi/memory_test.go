package maxi

import (
	"math/rand"
	"slices"
	"testing"

	"tracery/api"
	"tracery/maker"
)

// answer is what any of the calls answers.
type answer struct {
	net   api.Net
	rot   api.Rot
	list  []int
	count int
	err   api.Errno
}

type call struct {
	name string
	ask  func(g api.Net, order []int) answer
}

func calls() []call {
	list := []call{
		{"Keep", func(g api.Net, order []int) answer {
			kept, err := Keep(g, order)
			return answer{list: kept, err: err}
		}},
		{"Sub", func(g api.Net, _ []int) answer {
			sub, turn, kept, err := Sub(g)
			return answer{net: sub, rot: turn, list: kept, err: err}
		}},
		{"Layers", func(g api.Net, _ []int) answer {
			layer, count, err := Layers(g)
			return answer{list: layer, count: count, err: err}
		}},
	}
	for _, back := range nums(1, 2, 4, 7) { // edges near the last one are often left out
		list = append(list, call{"Why", func(g api.Net, _ []int) answer {
			edges, err := Why(g, len(g.Edges)-back)
			return answer{list: edges, err: err}
		}})
	}
	return list
}

func copied(a answer) answer {
	a.net.Edges, a.list, a.rot = slices.Clone(a.net.Edges), slices.Clone(a.list), slices.Clone(a.rot)
	for v, list := range a.rot {
		a.rot[v] = slices.Clone(list)
	}
	return a
}

func sameAnswer(a, b answer) bool {
	return a.net.N == b.net.N && slices.Equal(a.net.Edges, b.net.Edges) && sameLists(a.rot, b.rot) &&
		slices.Equal(a.list, b.list) && a.count == b.count && a.err == b.err
}

// whole is a list with its spare room.
func whole[T any](list []T) []T { return list[:cap(list)] }

// spoil writes over a list, its spare room too.
func spoil[T any](list []T, x T) {
	for i := range whole(list) {
		whole(list)[i] = x
	}
}

// handed is what is handed in to a call.
type handed struct {
	g     api.Net
	order []int
}

// roomy are nets of all sorts with orders of their edges, and such as are refused, all with spare room.
func roomy(t *testing.T) []handed {
	t.Helper()
	r := rand.New(rand.NewSource(151))
	must := made(t)
	nets := []api.Net{of(-1, 0, 0), of(2, 0, 2), must(maker.Stack(40, 1)), must(maker.Grid(5, 6)), petersen(), torus(4, 5)}
	for _, row := range rows(t) {
		if row.g.N < 100 {
			nets = append(nets, row.g)
		}
	}
	for range 40 {
		nets = append(nets, some(r, 12, 30), more(r, of(7), 20), split(t, r, core(t, 5), r.Intn(9)))
		nets = append(nets, hung(t, r, must(maker.Wheel(5)), core(t, 33), of(2, 0, 1, 1, 1)))
	}
	var list []handed
	for i, g := range nets {
		m := len(g.Edges)
		order := r.Perm(m)
		if i%9 == 8 && m > 0 {
			order[r.Intn(m)] = r.Intn(m + 1)
		}
		g.Edges = append(slices.Clone(g.Edges), [2]int{8, 8}, [2]int{9, 9})[:m]
		list = append(list, handed{g, append(order, 88, 99)[:m]})
	}
	return list
}

// TestNewMemory: answers are the same again, and may be written over: nothing else changes, no other list of the same answer either.
func TestNewMemory(t *testing.T) {
	for _, c := range calls() {
		for _, in := range roomy(t) {
			edges, order := slices.Clone(whole(in.g.Edges)), slices.Clone(whole(in.order))
			first, second := c.ask(in.g, in.order), c.ask(in.g, in.order)
			want := copied(second)
			if !sameAnswer(first, want) {
				t.Fatalf("P14.4: %s(%v, %v): %v, then %v", c.name, in.g, in.order, first, want)
			}
			for v, list := range first.rot {
				spoil(list, -7)
				if !sameLists(first.rot[v+1:], want.rot[v+1:]) {
					t.Fatalf("P14.4: %s(%v): the list of %d shares memory", c.name, in.g, v)
				}
			}
			spoil(first.rot, nil)
			spoil(first.net.Edges, [2]int{-7, -7})
			if !slices.Equal(first.list, want.list) {
				t.Fatalf("P14.4: %s(%v): the list of edges shares memory", c.name, in.g)
			}
			spoil(first.list, -7)
			if third := c.ask(in.g, in.order); !sameAnswer(second, want) || !sameAnswer(third, want) {
				t.Fatalf("P14.4: %s(%v): another answer has changed: %v, %v, not %v", c.name, in.g, second, third, want)
			}
			if !slices.Equal(whole(in.g.Edges), edges) || !slices.Equal(whole(in.order), order) {
				t.Fatalf("P14.4: %s: what was handed in has changed: %v, %v, not %v, %v", c.name, whole(in.g.Edges), whole(in.order), edges, order)
			}
		}
	}
}

// TestNothingKept: an answer stays when what was handed in is written over.
func TestNothingKept(t *testing.T) {
	for _, c := range calls() {
		for _, in := range roomy(t) {
			got := c.ask(in.g, in.order)
			want := copied(got)
			spoil(in.g.Edges, [2]int{-7, -7})
			spoil(in.order, -7)
			if !sameAnswer(got, want) {
				t.Fatalf("P14.4: %s: %v, not %v any more", c.name, got, want)
			}
		}
	}
}

// TestSameAgain: the same arguments have the same answer, whatever was asked between, and whatever room the lists have.
func TestSameAgain(t *testing.T) {
	list := roomy(t)
	for _, c := range calls() {
		var first []answer
		for _, in := range list {
			first = append(first, c.ask(in.g, in.order))
		}
		for i, in := range list {
			g := api.Net{N: in.g.N, Edges: slices.Clip(slices.Clone(in.g.Edges))}
			if again := c.ask(g, slices.Clip(slices.Clone(in.order))); !sameAnswer(again, first[i]) {
				t.Fatalf("P14.4: %s(%v, %v): %v, then %v", c.name, g, in.order, first[i], again)
			}
		}
	}
}

// TestNilAndEmpty: a nil list is the same as an empty one.
func TestNilAndEmpty(t *testing.T) {
	for _, c := range calls() {
		for _, n := range nums(0, 1, 6, 1024) {
			a, b := c.ask(api.Net{N: n}, nil), c.ask(api.Net{N: n, Edges: [][2]int{}}, nums())
			if !sameAnswer(a, b) {
				t.Errorf("P0.4: %s of %d nodes: %v, %v", c.name, n, a, b)
			}
			if c.name != "Why" && a.err != api.OK || c.name == "Why" && a.err != api.ErrBounds || len(a.list) != 0 || a.count != 0 {
				t.Errorf("P14: %s of %d nodes alone: %v", c.name, n, a)
			}
		}
	}
}
