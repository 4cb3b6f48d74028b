package path

import (
	"slices"
	"testing"

	"tracery/api"
)

// given is what is handed in, each list with spare room.
type given struct {
	g  api.Net
	w  []float64
	ws api.Ways
}

// roomy are nets with weights and ways: the example, a loop and parallel edges in two components, and one without edges.
func roomy() []given {
	room := func(g api.Net, w []float64, ws api.Ways) given {
		return given{
			api.Net{N: g.N, Edges: spare(g.Edges, [2]int{8, 8})},
			spare(w, -8),
			api.Ways{Far: spare(ws.Far, -8), By: spare(ws.By, -8)},
		}
	}
	return []given{
		room(example(), floats(1, nought(), 3), api.Ways{Far: floats(1, 1, 0), By: nums(1, 3, -1)}),
		room(of(5, 1, 1, 1, 0, 0, 1, 3, 4), floats(0, 5, 2, inf()), api.Ways{Far: floats(2, 0, 0, 0, 0), By: nums(5, -1, -1, 7, -1)}),
		room(of(2), nil, api.Ways{Far: floats(0, 0), By: nums(-1, -1)}),
	}
}

// spare is a list with room behind it, x in there.
func spare[T any](list []T, x T) []T {
	return append(slices.Clone(list), x, x, x)[:len(list)]
}

// whole is a list with its spare room.
func whole[T any](list []T) []T { return list[:cap(list)] }

// kept is a copy of what is handed in, spare room too.
func kept(in given) given {
	return given{
		api.Net{N: in.g.N, Edges: slices.Clone(whole(in.g.Edges))},
		slices.Clone(whole(in.w)),
		api.Ways{Far: slices.Clone(whole(in.ws.Far)), By: slices.Clone(whole(in.ws.By))},
	}
}

// stayed: whether what is handed in is still what it was.
func stayed(in, was given) bool {
	now := kept(in)
	return slices.Equal(now.g.Edges, was.g.Edges) && sameBits(now.w, was.w) && sameWays(now.ws, was.ws)
}

// answer is what any of the calls answers.
type answer struct {
	ways  api.Ways
	edges []int
	sum   float64
	err   api.Errno
}

func sameAnswer(a, b answer) bool {
	return sameWays(a.ways, b.ways) && slices.Equal(a.edges, b.edges) && sameBits(floats(a.sum), floats(b.sum)) && a.err == b.err
}

func copied(a answer) answer {
	a.ways = api.Ways{Far: slices.Clone(a.ways.Far), By: slices.Clone(a.ways.By)}
	a.edges = slices.Clone(a.edges)
	return a
}

// spoil writes over all lists of an answer, spare room too.
func spoil(a answer) {
	for _, list := range [][]int{a.ways.By, a.edges} {
		for i := range whole(list) {
			whole(list)[i] = -7
		}
	}
	for i := range whole(a.ways.Far) {
		whole(a.ways.Far)[i] = -7
	}
}

type call struct {
	name string
	ask  func(in given) answer
}

func calls() []call {
	return []call{
		{"From", func(in given) (a answer) {
			a.ways, a.err = From(in.g, in.w, 0)
			return a
		}},
		{"To", func(in given) (a answer) {
			a.edges, a.err = To(in.ws, in.g, 0)
			return a
		}},
		{"Least", func(in given) (a answer) {
			a.edges, a.sum, a.err = Least(in.g, in.w)
			return a
		}},
	}
}

// TestNewMemory: answers are the same again, and may be written over: nothing else changes.
func TestNewMemory(t *testing.T) {
	for _, c := range calls() {
		for _, in := range roomy() {
			was := kept(in)
			first, second := c.ask(in), c.ask(in)
			want := copied(second)
			if second.err != api.OK || !sameAnswer(first, want) {
				t.Errorf("P0.5: %s: %v, then %v", c.name, first, want)
			}
			spoil(first)
			if third := c.ask(in); !sameAnswer(second, want) || !sameAnswer(third, want) {
				t.Errorf("P7.4: %s: another answer has changed: %v, %v, want %v", c.name, second, third, want)
			}
			if !stayed(in, was) {
				t.Errorf("P7.4: %s: what was handed in has changed: %v", c.name, in)
			}
		}
	}
}

// TestNothingKept: an answer stays when what was handed in is written over.
func TestNothingKept(t *testing.T) {
	for _, c := range calls() {
		for _, in := range roomy() {
			got := c.ask(in)
			want := copied(got)
			clear(whole(in.g.Edges))
			clear(whole(in.w))
			clear(whole(in.ws.Far))
			clear(whole(in.ws.By))
			if !sameAnswer(got, want) {
				t.Errorf("P7.4: %s: %v, not %v any more", c.name, got, want)
			}
		}
	}
}

// TestRefusedChangesNothing: nor does a call that is refused.
func TestRefusedChangesNothing(t *testing.T) {
	for _, c := range calls() {
		for _, in := range roomy() {
			for _, wrong := range []given{
				{api.Net{N: -1, Edges: in.g.Edges}, in.w, in.ws},
				{in.g, whole(in.w), api.Ways{Far: in.ws.Far, By: whole(in.ws.By)}},
				{in.g, whole(in.w)[:len(in.w)+1], api.Ways{Far: whole(in.ws.Far), By: in.ws.By}},
				{api.Net{N: in.g.N, Edges: whole(in.g.Edges)}, whole(in.w), in.ws},
			} {
				was := kept(in)
				if a := c.ask(wrong); a.err == api.OK {
					t.Errorf("P7.4: %s of %v: %v", c.name, wrong, a)
				}
				if !stayed(in, was) {
					t.Errorf("P7.4: %s: what was handed in has changed: %v", c.name, in)
				}
			}
		}
	}
}

// TestSharedList: one list may be handed in at several places, as the ways that From answered may be asked for each node.
func TestSharedList(t *testing.T) {
	g, w := example(), floats(0, 1, 3)
	if ws, e := From(g, w, 0); e != api.OK || !sameBits(w, floats(0, 1, 3)) || !sameBits(ws.Far, floats(0, 0, 1)) {
		t.Errorf("P7.4: %v, %v, %v", ws, w, e)
	}
	ws := api.Ways{Far: w, By: nums(-1, 0, 2)}
	way, e := To(ws, g, 2)
	if e != api.OK || !slices.Equal(way, nums(0, 2)) || !slices.Equal(ws.By, nums(-1, 0, 2)) {
		t.Errorf("P7.4: %v, %v, %v", way, ws, e)
	}
}

// TestNilAndEmpty: a nil list is the same as an empty one.
func TestNilAndEmpty(t *testing.T) {
	for _, c := range calls() {
		for n := range 3 {
			ws := api.Ways{Far: make([]float64, n), By: slices.Repeat(nums(-1), n)}
			if n == 0 {
				ws = api.Ways{}
			}
			a := c.ask(given{api.Net{N: n}, nil, ws})
			if n == 0 {
				ws = api.Ways{Far: []float64{}, By: []int{}}
			}
			b := c.ask(given{api.Net{N: n, Edges: [][2]int{}}, []float64{}, ws})
			if !sameAnswer(a, b) {
				t.Errorf("P0.4: %s of %d nodes: %v, %v", c.name, n, a, b)
			}
		}
	}
}
