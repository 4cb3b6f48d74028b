package sepa

import (
	"math/rand"
	"slices"
	"testing"

	"tracery/api"
	"tracery/maker"
)

// answer is what any of the calls answers.
type answer struct {
	level   int
	pairs   [][2]int
	classes [][]int
	err     api.Errno
}

type call struct {
	name string
	ask  func(g api.Net) answer
}

func calls() []call {
	list := []call{
		{"Level", func(g api.Net) answer {
			level, err := Level(g)
			return answer{level: level, err: err}
		}},
		{"Pairs", func(g api.Net) answer {
			pairs, err := Pairs(g)
			return answer{pairs: pairs, err: err}
		}},
		{"Splits", func(g api.Net) answer {
			pairs, err := Splits(g)
			return answer{pairs: pairs, err: err}
		}},
	}
	for _, ends := range two(0, 1, 2, 0, 1, 3, 5, 4, 1, 1) {
		list = append(list, call{"Classes", func(g api.Net) answer {
			classes, err := Classes(g, ends[0], ends[1])
			return answer{classes: classes, err: err}
		}})
	}
	return list
}

func copied(a answer) answer {
	a.pairs, a.classes = slices.Clone(a.pairs), slices.Clone(a.classes)
	for i, class := range a.classes {
		a.classes[i] = slices.Clone(class)
	}
	return a
}

func sameAnswer(a, b answer) bool {
	return a.level == b.level && slices.Equal(a.pairs, b.pairs) && sameLists(a.classes, b.classes) && a.err == b.err
}

// whole is a list with its spare room.
func whole[T any](list []T) []T { return list[:cap(list)] }

// spoil writes over a list, its spare room too.
func spoil[T any](list []T, x T) {
	for i := range whole(list) {
		whole(list)[i] = x
	}
}

// roomy are nets of all sorts, and such as are refused, all with spare room behind their edges.
func roomy(t *testing.T) []api.Net {
	t.Helper()
	r := rand.New(rand.NewSource(162))
	list := append(kinds(t), of(-1, 0, 0), of(2, 0, 2), of(3, 3, 0), made(t)(maker.Grid(5, 6)), made(t)(maker.Cycle(30)))
	for _, row := range rows(t) {
		list = append(list, row.g)
	}
	for i := range 60 {
		list = append(list, some(r, 12, 30), more(r, of(7), 16), eared(t, r, i%9), more(r, eared(t, r, i%5), 3))
	}
	for i, g := range list {
		m := len(g.Edges)
		list[i].Edges = append(slices.Clone(g.Edges), [2]int{8, 8}, [2]int{9, 9})[:m]
	}
	return list
}

// TestNewMemory: answers are the same again, and may be written over: nothing else changes, no other list of the same answer either.
func TestNewMemory(t *testing.T) {
	for _, c := range calls() {
		for _, g := range roomy(t) {
			kept := slices.Clone(whole(g.Edges))
			first, second := c.ask(g), c.ask(g)
			want := copied(second)
			if !sameAnswer(first, want) {
				t.Fatalf("P0.5: %s(%v): %v, then %v", c.name, g, first, want)
			}
			for i, class := range first.classes {
				spoil(class, -7)
				if !sameLists(first.classes[i+1:], want.classes[i+1:]) {
					t.Fatalf("P15.5: %s(%v): the class %d shares memory", c.name, g, i)
				}
			}
			spoil(first.classes, nil)
			spoil(first.pairs, [2]int{-7, -7})
			if third := c.ask(g); !sameAnswer(second, want) || !sameAnswer(third, want) {
				t.Fatalf("P15.5: %s(%v): another answer has changed: %v, %v, not %v", c.name, g, second, third, want)
			}
			if !slices.Equal(whole(g.Edges), kept) {
				t.Fatalf("P0.3: %s: what was handed in has changed: %v, not %v", c.name, whole(g.Edges), kept)
			}
		}
	}
}

// TestNothingKept: an answer stays when what was handed in is written over.
func TestNothingKept(t *testing.T) {
	for _, c := range calls() {
		for _, g := range roomy(t) {
			got := c.ask(g)
			want := copied(got)
			spoil(g.Edges, [2]int{-7, -7})
			if !sameAnswer(got, want) {
				t.Fatalf("P0.3: %s: %v, not %v any more", c.name, got, want)
			}
		}
	}
}

// TestSameAgain: the same arguments have the same answer, whatever was asked between, and whatever room the list has.
func TestSameAgain(t *testing.T) {
	list := roomy(t)
	for _, c := range calls() {
		var first []answer
		for _, g := range list {
			first = append(first, c.ask(g))
		}
		for i, g := range list {
			tight := api.Net{N: g.N, Edges: slices.Clip(slices.Clone(g.Edges))}
			if again := c.ask(tight); !sameAnswer(again, first[i]) {
				t.Fatalf("P0.5: %s(%v): %v, then %v", c.name, g, first[i], again)
			}
		}
	}
}

// TestRefusedTellsNothing: with an error every other result is its zero value, and what was handed in stays as it was.
func TestRefusedTellsNothing(t *testing.T) {
	for _, c := range calls() {
		refused := 0
		for _, g := range slices.Concat(roomy(t), wrong()) {
			kept := slices.Clone(whole(g.Edges))
			a := c.ask(g)
			if a.err == api.OK {
				continue
			}
			refused++
			if a.level != 0 || len(a.pairs) != 0 || len(a.classes) != 0 {
				t.Errorf("P0.2: %s of %d nodes, %d edges: %v", c.name, g.N, len(g.Edges), a)
			}
			if !slices.Equal(whole(g.Edges), kept) {
				t.Errorf("P0.3: %s of %d nodes, %d edges: what was handed in has changed", c.name, g.N, len(g.Edges))
			}
		}
		if refused < len(wrong()) {
			t.Errorf("P15: %s refused %d nets alone", c.name, refused)
		}
	}
}

// TestNilAndEmpty: a nil list is the same as an empty one.
func TestNilAndEmpty(t *testing.T) {
	for _, c := range calls() {
		for _, n := range nums(0, 1, 2, 6, 1024) {
			if a, b := c.ask(api.Net{N: n}), c.ask(api.Net{N: n, Edges: [][2]int{}}); !sameAnswer(a, b) {
				t.Errorf("P0.4: %s of %d nodes: %v, %v", c.name, n, a, b)
			}
		}
	}
}
