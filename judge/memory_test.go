package judge

import (
	"math/rand"
	"slices"
	"testing"

	"tracery/api"
)

// answer is what any of the calls answers.
type answer struct {
	flaws []api.Flaw
	lists [][]int // each a list of its own
	look  api.PlotLook
	ok    bool
	err   api.Errno
}

// nothing tells whether all but the error is zero.
func (a answer) nothing() bool {
	return len(a.flaws) == 0 && len(a.lists) == 0 && a.look == (api.PlotLook{}) && !a.ok
}

// told is what a call is handed.
type told struct {
	g api.Net
	r api.Rot
	p api.Plot
}

type call struct {
	name string
	ask  func(x told) answer
}

func calls() []call {
	return []call{
		{"Check", func(x told) answer {
			list, err := Check(x.g, x.p)
			return answer{flaws: list, err: err}
		}},
		{"Turns", func(x told) answer {
			r, err := Turns(x.g, x.p)
			return answer{lists: r, err: err}
		}},
		{"Fits", func(x told) answer {
			ok, err := Fits(x.g, x.r, x.p)
			return answer{ok: ok, err: err}
		}},
		{"Look", func(x told) answer {
			look, err := Look(x.g, x.p)
			return answer{look: look, err: err}
		}},
	}
}

// copiedLines is a copy of all lines.
func copiedLines(lines [][]api.Point) [][]api.Point {
	var all [][]api.Point
	for _, l := range lines {
		all = append(all, slices.Clone(l))
	}
	return all
}

// withRoom is a copy that has spare room, with something in it.
func withRoom(x told) told {
	room := line(8, 8, 9, 9)
	y := told{g: api.Net{N: x.g.N, Edges: append(slices.Clone(x.g.Edges), [2]int{8, 8}, [2]int{9, 9})[:len(x.g.Edges)]}}
	y.r = append(deep(x.r), nums(8), nums(9))[:len(x.r)]
	for v, list := range y.r {
		y.r[v] = append(list, 8, 9)[:len(list)]
	}
	y.p.At = append(slices.Clone(x.p.At), room...)[:len(x.p.At)]
	y.p.Lines = append(copiedLines(x.p.Lines), line(8, 8), line(9, 9))[:len(x.p.Lines)]
	for e, l := range y.p.Lines {
		y.p.Lines[e] = append(l, room...)[:len(l)]
	}
	return y
}

// roomy are arguments of all kinds, some of them refused, all with spare room.
func roomy() []told {
	g, at, direct := example()
	r := api.Rot{{0}, {2, 1}, {3}}
	all := []told{
		{g, r, plot(at, line(0, 0, 1, 1, 2, 0), direct)}, {g, r, plot(at, line(0, 0, 2, 0), direct)}, {g, r[:2], plot(at, nil, direct)},
		{g, r, api.Plot{}}, {of(0), nil, api.Plot{}}, {of(2), api.Rot{nil, {}}, plot(line(3, 3, 3, 3))}, {of(1), api.Rot{nil}, plot(line(3, 3))},
		{g, r, plot(at, line(0, 0, 9, 0, 2, 0), direct)}, {of(1, 0, 0), api.Rot{{1, 0}}, plot(line(0, 0), line(0, 0, 1, 1, 2, 0, 0, 0))},
	}
	rnd := rand.New(rand.NewSource(120))
	for range 30 {
		g, p := drawn(rnd, draw{5, 5, 2, 9, 6})
		all = append(all, told{g, shuffled(rnd, g), p})
	}
	for _, row := range finePlots(121, 6) {
		all = append(all, told{row.g, shuffled(rnd, row.g), row.p}, told{row.g, byAngles(row.g, row.p), row.p})
	}
	for i, x := range all {
		all[i] = withRoom(x)
	}
	return all
}

// whole is a list with its spare room.
func whole[T any](list []T) []T { return list[:cap(list)] }

// wholeOf is all that was handed in, spare room and all, as a copy.
func wholeOf(x told) told {
	y := told{api.Net{N: x.g.N, Edges: slices.Clone(whole(x.g.Edges))}, slices.Clone(whole(x.r)), plot(slices.Clone(whole(x.p.At)), slices.Clone(whole(x.p.Lines))...)}
	for v, list := range y.r {
		y.r[v] = slices.Clone(whole(list))
	}
	for e, l := range y.p.Lines {
		y.p.Lines[e] = slices.Clone(whole(l))
	}
	return y
}

func sameTold(x, y told) bool {
	return x.g.N == y.g.N && slices.Equal(x.g.Edges, y.g.Edges) && equal(x.r, y.r) && slices.Equal(x.p.At, y.p.At) &&
		slices.EqualFunc(x.p.Lines, y.p.Lines, func(a, b []api.Point) bool { return slices.Equal(a, b) })
}

func copyOf(a answer) answer {
	a.flaws, a.lists = slices.Clone(a.flaws), deep(a.lists)
	return a
}

func sameAnswer(a, b answer) bool {
	return slices.Equal(a.flaws, b.flaws) && equal(a.lists, b.lists) && a.look == b.look && a.ok == b.ok && a.err == b.err
}

// spoil writes over a list, its spare room too.
func spoil[T any](list []T, x T) {
	for i := range whole(list) {
		whole(list)[i] = x
	}
}

// TestNewMemory: answers are the same again, and may be written over: nothing else changes, no other list of the same answer either.
func TestNewMemory(t *testing.T) {
	for _, c := range calls() {
		for _, x := range roomy() {
			before := wholeOf(x)
			first, second := c.ask(x), c.ask(x)
			want := copyOf(second)
			if !sameAnswer(first, want) {
				t.Errorf("P0.5: %s: %v, then %v", c.name, first, want)
			}
			for i, list := range first.lists {
				spoil(list, -7)
				for k := i + 1; k < len(first.lists); k++ {
					if !slices.Equal(first.lists[k], want.lists[k]) {
						t.Errorf("P11.4: %s: the lists %d and %d share memory", c.name, i, k)
					}
				}
			}
			spoil(first.lists, nil)
			spoil(first.flaws, api.Flaw{Code: -7, A: -7, B: -7})
			if third := c.ask(x); !sameAnswer(second, want) || !sameAnswer(third, want) {
				t.Errorf("P11.4: %s: another answer has changed: %v, %v, want %v", c.name, second, third, want)
			}
			if !sameTold(wholeOf(x), before) {
				t.Errorf("P11.4: %s: what was handed in has changed: %v, not %v", c.name, x, before)
			}
		}
	}
}

// TestNothingKept: an answer stays when what was handed in is written over.
func TestNothingKept(t *testing.T) {
	for _, c := range calls() {
		for _, x := range roomy() {
			got := c.ask(x)
			want := copyOf(got)
			for _, list := range whole(x.r) {
				spoil(list, -7)
			}
			for _, l := range whole(x.p.Lines) {
				spoil(l, pt(-7, -7))
			}
			spoil(x.r, nums(-7))
			spoil(x.p.At, pt(-7, -7))
			spoil(x.p.Lines, line(-7, -7))
			spoil(x.g.Edges, [2]int{-7, -7})
			if !sameAnswer(got, want) {
				t.Errorf("P11.4: %s: %v, not %v any more", c.name, got, want)
			}
		}
	}
}

// TestRefusedChangesNothing: nor does a call that is refused, by the net, the rotation or the plot.
func TestRefusedChangesNothing(t *testing.T) {
	for _, c := range calls() {
		for _, x := range roomy() {
			before, told1 := c.ask(x), wholeOf(x)
			if before.err != api.OK && !before.nothing() {
				t.Errorf("P0.2: %s: %v", c.name, before)
			}
			for _, bad := range []api.Net{{N: -1, Edges: x.g.Edges}, {N: 1025, Edges: x.g.Edges}, {N: x.g.N, Edges: whole(x.g.Edges)}} {
				if got := c.ask(told{bad, x.r, x.p}); got.err != api.ErrArg || !got.nothing() {
					t.Errorf("ErrArg: %s of %v: %v", c.name, bad, got)
				}
			}
			c.ask(told{x.g, whole(x.r), plot(whole(x.p.At), whole(x.p.Lines)...)})
			if !sameTold(wholeOf(x), told1) {
				t.Errorf("P0.2: %s: what was handed in has changed: %v, not %v", c.name, x, told1)
			}
			if again := c.ask(x); !sameAnswer(again, before) {
				t.Errorf("P0.2: %s: %v, then %v", c.name, before, again)
			}
		}
	}
}

// TestNilAndEmpty: a nil list is the same as an empty one.
func TestNilAndEmpty(t *testing.T) {
	for _, c := range calls() {
		for n := range 4 {
			at, empty := make([]api.Point, n), make(api.Rot, n)
			for v := range n {
				at[v], empty[v] = pt(v, v), []int{}
			}
			a := c.ask(told{api.Net{N: n}, make(api.Rot, n), plot(at)})
			b := c.ask(told{api.Net{N: n, Edges: [][2]int{}}, empty, plot(at, [][]api.Point{}...)})
			if !sameAnswer(a, b) || a.err != api.OK {
				t.Errorf("P0.4: %s of %d nodes: %v, %v", c.name, n, a, b)
			}
		}
		a, b := c.ask(told{g: of(0)}), c.ask(told{of(0), api.Rot{}, plot([]api.Point{}, [][]api.Point{}...)})
		if !sameAnswer(a, b) {
			t.Errorf("P0.4: %s of no node: %v, %v", c.name, a, b)
		}
		two := of(2, 0, 1)
		a = c.ask(told{two, rising(two), plot(line(0, 0, 1, 1), nil)})
		b = c.ask(told{two, rising(two), plot(line(0, 0, 1, 1), []api.Point{})})
		if !sameAnswer(a, b) {
			t.Errorf("P0.4: %s of a line without points: %v, %v", c.name, a, b)
		}
	}
}
