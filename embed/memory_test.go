package embed

import (
	"math/rand"
	"slices"
	"testing"

	"tracery/api"
	"tracery/maker"
	"tracery/planar"
	"tracery/rot"
)

// spoil writes over a list, its spare room too.
func spoil[T any](list []T, x T) {
	whole := list[:cap(list)]
	for i := range whole {
		whole[i] = x
	}
}

var badEnds = [2]int{-7, -7}

// spacious is a copy of a net with spare room behind its edges, and something bad in it.
func spacious(g api.Net) api.Net {
	return api.Net{N: g.N, Edges: append(slices.Clone(g.Edges), badEnds)[:len(g.Edges)]}
}

// spaciousWay is a copy of a rotation, its lists one behind the other in one room, with something bad behind them and behind it.
func spaciousWay(r api.Rot) api.Rot {
	room := append(slices.Concat(r...), -7)
	way := make(api.Rot, 0, len(r)+1)
	for _, list := range r {
		way = append(way, room[:len(list)])
		room = room[len(list):]
	}
	return append(way, []int{-7})[:len(r)]
}

// untouched: whether what was handed in is as spacious left it.
func untouched(g, was api.Net, way, before api.Rot) bool {
	if g.N != was.N || !slices.Equal(g.Edges, was.Edges) || g.Edges[:len(was.Edges)+1][len(was.Edges)] != badEnds || !sameLists(way, before) {
		return false
	}
	behind := way[:len(way)+1][len(way)]
	last := way[len(way)-1]
	return slices.Equal(behind, []int{-7}) && last[:len(last)+1][len(last)] == -7
}

// sorts are nets of all sorts that have ways, and some that have none.
func sorts(t *testing.T) []api.Net {
	t.Helper()
	must := made(t)
	list := []api.Net{must(maker.Complete(5)), must(maker.Path(4)), must(maker.Bond(2)), must(maker.Bond(20)), petersen(), hung(t, 5), beads(1, 2, 3, 4)}
	r := rand.New(rand.NewSource(301))
	for i := range 30 {
		list = append(list, eared(t, r, i%6))
	}
	for _, row := range knownNets(t) {
		if len(row.g.Edges) < 30 {
			list = append(list, row.g)
		}
	}
	return list
}

// answer is all that is told of a net: of its middle way, and of a rotation.
type answer struct {
	count, number int64
	way           api.Rot
	errs          [3]api.Errno
}

// rotationOf is a rotation of g: a planar one, if it has one.
func rotationOf(g api.Net) api.Rot {
	way, err := planar.Embed(g)
	if err != api.OK {
		way, _ = rot.First(g)
	}
	return way
}

func ask(g api.Net, r api.Rot) answer {
	var x answer
	x.count, x.errs[0] = Count(g)
	x.way, x.errs[1] = At(g, x.count/2)
	x.number, x.errs[2] = Number(g, r)
	return x
}

func (x answer) same(y answer) bool {
	return x.count == y.count && x.number == y.number && sameLists(x.way, y.way) && x.errs == y.errs
}

func (x answer) copied() answer {
	x.way = copied(x.way)
	return x
}

// TestNewMemory: answers are the same again, and may be written over: nothing else changes, no other list of the same answer either.
func TestNewMemory(t *testing.T) {
	t.Parallel()
	for _, net := range sorts(t) {
		g, way := spacious(net), spaciousWay(rotationOf(net))
		first, second := ask(g, way), ask(g, way)
		want := second.copied()
		if !first.same(want) {
			t.Fatalf("P0.5: of %v: %v, then %v", net, first, want)
		}
		for v, list := range first.way {
			spoil(list, v)
		}
		for v, list := range first.way {
			if slices.ContainsFunc(list[:cap(list)], func(x int) bool { return x != v }) {
				t.Fatalf("P18.3: of %v: the list of %d shares memory with another one", net, v)
			}
		}
		spoil(first.way, []int{-7})
		if !second.same(want) || !ask(g, way).same(want) {
			t.Fatalf("P18.3: of %v: another answer has changed: %v, not %v", net, second, want)
		}
		if !untouched(g, net, way, rotationOf(net)) {
			t.Fatalf("P18.3: what was handed in has changed: %v, %v", g, way)
		}
	}
}

// TestNothingKept: an answer stays when what was handed in is written over, and so do later ones.
func TestNothingKept(t *testing.T) {
	t.Parallel()
	for _, net := range sorts(t) {
		g, way := spacious(net), spaciousWay(rotationOf(net))
		got := ask(g, way)
		want := got.copied()
		for _, list := range way {
			spoil(list, -7)
		}
		spoil(g.Edges, badEnds)
		if !got.same(want) {
			t.Fatalf("P18.3: of %v: %v, not %v any more", net, got, want)
		}
		if again := ask(net, rotationOf(net)); !again.same(want) {
			t.Fatalf("P0.5: of %v: %v, then %v", net, want, again)
		}
	}
}

// TestSameAgain: the same arguments have the same answer, whatever was asked between, and by whom.
func TestSameAgain(t *testing.T) {
	t.Parallel()
	all := sorts(t)
	var first []answer
	for _, g := range all {
		first = append(first, ask(g, rotationOf(g)))
	}
	for i, g := range slices.Backward(all) {
		if x := ask(g, rotationOf(g)); !x.same(first[i]) {
			t.Fatalf("P0.5: of %v: %v, then %v", g, first[i], x)
		}
	}
	results := make([][]answer, 4)
	t.Run("at once", func(t *testing.T) {
		for k := range results {
			t.Run("one of them", func(t *testing.T) {
				t.Parallel()
				for _, g := range all {
					results[k] = append(results[k], ask(g, rotationOf(g)))
				}
			})
		}
	})
	for _, list := range results {
		for i, x := range list {
			if !x.same(first[i]) {
				t.Fatalf("P0.5: of %v: %v, at once with others %v", all[i], first[i], x)
			}
		}
	}
}

// TestNilAndEmpty: a nil list is the same as an empty one, in all its depth.
func TestNilAndEmpty(t *testing.T) {
	refused(t, api.Net{}, 0, nil, api.ErrBicon, api.ErrBicon, api.ErrBicon)
	refused(t, api.Net{N: 2, Edges: [][2]int{}}, 0, api.Rot{}, api.ErrBicon, api.ErrBicon, api.ErrBicon)
	g := made(t)(maker.Cycle(3))
	for _, r := range []api.Rot{nil, {}, {nil, nil, nil}, {{}, {}, {}}} {
		if k, err := Number(g, r); k != 0 || err != api.ErrRot {
			t.Errorf("P0.4: Number(%v, %v): %d, %v", g, r, k, err)
		}
	}
}
