package insert

import (
	"math/rand"
	"slices"
	"testing"

	"tracery/api"
	"tracery/maker"
	"tracery/planar"
)

// spoil writes over a list, its spare room too.
func spoil[T any](list []T, x T) {
	whole := list[:cap(list)]
	for i := range whole {
		whole[i] = x
	}
}

var badEnds = [2]int{-7, -7}

// spacious is a copy of a net with spare room behind its edges, and something bad in it.
func spacious(g api.Net) api.Net {
	return api.Net{N: g.N, Edges: append(slices.Clone(g.Edges), badEnds)[:len(g.Edges)]}
}

// spaciousWay is a copy of a rotation, its lists one behind the other in one room, with something bad behind them and behind it.
func spaciousWay(x api.Rot) api.Rot {
	room := append(slices.Concat(x...), -7)
	way := make(api.Rot, 0, len(x)+1)
	for _, list := range x {
		way = append(way, room[:len(list)])
		room = room[len(list):]
	}
	return append(way, []int{-7})[:len(x)]
}

// untouched: whether what was handed in is as spacious left it.
func untouched(g, was api.Net, way, before api.Rot) bool {
	if g.N != was.N || !slices.Equal(g.Edges, was.Edges) || g.Edges[:len(was.Edges)+1][len(was.Edges)] != badEnds || !sameLists(way, before) {
		return false
	}
	behind := way[:len(way)+1][len(way)]
	last := way[len(way)-1]
	return slices.Equal(behind, []int{-7}) && last[:len(last)+1][len(last)] == -7
}

// question is what is asked.
type question struct {
	g    api.Net
	x    api.Rot
	u, v int
}

// questions are such that are answered and such that are not, over none, one and more edges.
func questions(t *testing.T) []question {
	t.Helper()
	r := rand.New(rand.NewSource(421))
	_, plane, torus := twoParts()
	parts, _, _ := twoParts()
	list := []question{{parts, plane, 0, 1}, {parts, plane, 1, 1}, {parts, plane, 0, 4}, {parts, plane, 5, 0}, {parts, torus, 0, 1}}
	for _, row := range rows() {
		list = append(list, question{row.g, row.x, row.u, row.v}, question{row.g, row.x, row.v, row.u})
	}
	for loops := range 6 {
		g, x := onion(loops)
		g, x, node := mixed(r, g, x)
		list = append(list, question{g, spun(r, x), node[1], node[2]})
	}
	for i := range 60 {
		g, x := grown(t, r, 2+i%6, 1+r.Intn(12))
		list = append(list, question{g, x, r.Intn(g.N), r.Intn(g.N)})
	}
	stack := made(t)(maker.Stack(40, 3))
	x, _ := planar.Embed(stack)
	for v := 1; v < 40; v++ {
		list = append(list, question{stack, x, v, 40 - v})
	}
	return list
}

func (q question) ask() answer { return ask(q.g, q.x, q.u, q.v) }

// TestNewMemory: answers are the same again, and may be written over: nothing else changes, no other list of the same answer either.
func TestNewMemory(t *testing.T) {
	t.Parallel()
	for _, q := range questions(t) {
		g, x := spacious(q.g), spaciousWay(q.x)
		first, second := ask(g, x, q.u, q.v), ask(g, x, q.u, q.v)
		want := second.copied()
		if !first.same(want) {
			t.Fatalf("P0.5: of %v: %v, then %v", q, first, want)
		}
		for v, list := range first.rot {
			spoil(list, v)
		}
		for v, list := range first.rot {
			if slices.ContainsFunc(list[:cap(list)], func(x int) bool { return x != v }) {
				t.Fatalf("P19.3: of %v: the list of %d shares memory with another one", q, v)
			}
		}
		spoil(first.rot, []int{-7})
		spoil(first.route, -7)
		spoil(first.way, -8)
		spoil(first.net.Edges, badEnds)
		if slices.Contains(first.route[:cap(first.route)], -8) {
			t.Fatalf("P19.3: of %v: the route shares memory with the way", q)
		}
		if !second.same(want) || !ask(g, x, q.u, q.v).same(want) {
			t.Fatalf("P19.3: of %v: another answer has changed: %v, not %v", q, second, want)
		}
		if !untouched(g, q.g, x, q.x) {
			t.Fatalf("P19.3: what was handed in has changed: %v, %v, not %v", g, x, q)
		}
	}
}

// TestNothingKept: an answer stays when what was handed in is written over, and so do later ones.
func TestNothingKept(t *testing.T) {
	t.Parallel()
	for _, q := range questions(t) {
		g, x := spacious(q.g), spaciousWay(q.x)
		got := ask(g, x, q.u, q.v)
		want := got.copied()
		for _, list := range x {
			spoil(list, -7)
		}
		spoil(x, []int{-7})
		spoil(g.Edges, badEnds)
		if !got.same(want) {
			t.Fatalf("P19.3: of %v: %v, not %v any more", q, got, want)
		}
		if again := q.ask(); !again.same(want) {
			t.Fatalf("P0.5: of %v: %v, then %v", q, want, again)
		}
	}
}

// TestSameAgain: the same arguments have the same answer, whatever was asked between, and by whom, and wherever lists begin.
func TestSameAgain(t *testing.T) {
	t.Parallel()
	all, r := questions(t), rand.New(rand.NewSource(422))
	var first []answer
	for _, q := range all {
		first = append(first, q.ask())
	}
	for i, q := range slices.Backward(all) {
		if a := q.ask(); !a.same(first[i]) {
			t.Fatalf("P0.5: of %v: %v, then %v", q, first[i], a)
		}
		if a := ask(q.g, spun(r, q.x), q.u, q.v); !a.same(first[i]) {
			t.Fatalf("P19.1, P19.2: of %v: %v, with lists begun elsewhere %v", q, first[i], a)
		}
	}
	results := make([][]answer, 4)
	t.Run("at once", func(t *testing.T) {
		for k := range results {
			t.Run("one of them", func(t *testing.T) {
				t.Parallel()
				for _, q := range all {
					results[k] = append(results[k], q.ask())
				}
			})
		}
	})
	for _, list := range results {
		for i, a := range list {
			if !a.same(first[i]) {
				t.Fatalf("P0.5: of %v: %v, at once with others %v", all[i], first[i], a)
			}
		}
	}
}

// TestNilAndEmpty: a nil list is the same as an empty one, in all its depth.
func TestNilAndEmpty(t *testing.T) {
	for _, x := range []api.Rot{nil, {}} {
		refused(t, api.Net{}, x, 0, 1, api.ErrBounds)
		refused(t, api.Net{Edges: [][2]int{}}, x, 0, 1, api.ErrBounds)
		refused(t, api.Net{N: 2}, x, 0, 1, api.ErrRot)
		refused(t, of(2, 0, 1), x, 0, 1, api.ErrRot)
	}
	for _, x := range []api.Rot{{nil, nil}, {{}, {}}, {nil, {}}} {
		refused(t, api.Net{N: 2}, x, 0, 1, api.ErrConn)
		refused(t, api.Net{N: 2, Edges: [][2]int{}}, x, 1, 0, api.ErrConn)
		refused(t, of(2, 0, 1), x, 0, 1, api.ErrRot)
	}
	g := of(3, 0, 1)
	a, b := ask(g, api.Rot{{0}, {1}, nil}, 0, 1), ask(g, api.Rot{{0}, {1}, {}}, 0, 1)
	if a.errs != [3]api.Errno{} || !a.same(b) || !slices.Equal(a.way, nums(1)) {
		t.Errorf("P0.4: %v, with an empty list %v", a, b)
	}
}
