package spqr

import (
	"math/rand"
	"slices"
	"testing"

	"tracery/api"
	"tracery/maker"
	"tracery/net"
)

// whole is a list with its spare room.
func whole[T any](list []T) []T { return list[:cap(list)] }

// spoil writes over a list, its spare room too.
func spoil[T any](list []T, x T) {
	for i := range whole(list) {
		whole(list)[i] = x
	}
}

var (
	badBond  = api.Bond{A: -7, B: -7, Edge: -7, Twin: -7}
	badPiece = api.Piece{Kind: -7}
)

// roomy are nets of all sorts, and such as are refused, all with spare room behind their edges.
func roomy(t *testing.T) []api.Net {
	t.Helper()
	r := rand.New(rand.NewSource(174))
	list := slices.Concat(kinds(t), loose(t), []api.Net{of(-1, 0, 0), of(2, 0, 2), of(3, 3, 0), of(2, 0, 1, 0, 1), made(t)(maker.Grid(5, 6)), made(t)(maker.Cycle(30))})
	for _, row := range rows(t) {
		list = append(list, row.g)
	}
	for i := range 60 {
		list = append(list, some(r, 12, 30), eared(t, r, i%9), more(r, eared(t, r, i%5), 3))
	}
	for i, g := range list {
		m := len(g.Edges)
		list[i].Edges = append(slices.Clone(g.Edges), [2]int{8, 8}, [2]int{9, 9})[:m]
	}
	return list
}

// TestNewMemory: answers are the same again, and may be written over: nothing else changes, no other list of the same answer either.
func TestNewMemory(t *testing.T) {
	for _, g := range roomy(t) {
		kept := slices.Clone(whole(g.Edges))
		first, err := Of(g)
		second, again := Of(g)
		want := copied(second)
		if !samePieces(first, want) || err != again {
			t.Fatalf("P0.5: Of(%v): %v, %v, then %v, %v", g, first, err, want, again)
		}
		for i, p := range first {
			spoil(p.Nodes, -7)
			if !slices.Equal(p.Edges, want[i].Edges) {
				t.Fatalf("P16.3: Of(%v): the nodes of the part %d share memory with its edges", g, i)
			}
			spoil(p.Edges, badBond)
			if !samePieces(first[i+1:], want[i+1:]) {
				t.Fatalf("P16.3: Of(%v): the part %d shares memory", g, i)
			}
		}
		spoil(first, badPiece)
		if third, _ := Of(g); !samePieces(second, want) || !samePieces(third, want) {
			t.Fatalf("P16.3: Of(%v): another answer has changed: %v, %v, not %v", g, second, third, want)
		}
		Kinds(g)
		if !slices.Equal(whole(g.Edges), kept) {
			t.Fatalf("P0.3: what was handed in has changed: %v, not %v", whole(g.Edges), kept)
		}
	}
}

// TestNothingKept: an answer stays when what was handed in is written over, and so do later ones.
func TestNothingKept(t *testing.T) {
	for _, g := range roomy(t) {
		ps, err := Of(g)
		want := copied(ps)
		tight := api.Net{N: g.N, Edges: slices.Clip(slices.Clone(g.Edges))}
		spoil(g.Edges, [2]int{-7, -7})
		if !samePieces(ps, want) {
			t.Fatalf("P0.3: Of: %v, not %v any more", ps, want)
		}
		if other, again := Of(tight); !samePieces(other, want) || again != err {
			t.Fatalf("P0.5: Of(%v): %v, %v, then %v, %v", tight, want, err, other, again)
		}
	}
}

// spacious is a copy of the parts with spare room behind each list, and something bad in it.
func spacious(ps []api.Piece) []api.Piece {
	list := append(copied(ps), badPiece)[:len(ps)]
	for i, p := range list {
		list[i].Nodes = append(p.Nodes, -7)[:len(p.Nodes)]
		list[i].Edges = append(p.Edges, badBond)[:len(p.Edges)]
	}
	return list
}

// sameRoom: whether the lists are the same, and the spare room behind them is as spacious left it.
func sameRoom(list, ps []api.Piece) bool {
	if !samePieces(list, ps) || !samePiece(list[:len(ps)+1][len(ps)], badPiece) {
		return false
	}
	for _, p := range list {
		if p.Nodes[:len(p.Nodes)+1][len(p.Nodes)] != -7 || p.Edges[:len(p.Edges)+1][len(p.Edges)] != badBond {
			return false
		}
	}
	return true
}

// TestAtMemory: At neither changes nor keeps the parts, in all their depth, nor what it answered.
func TestAtMemory(t *testing.T) {
	for _, g := range roomy(t) {
		ps, _ := Of(g)
		for i := range ps {
			list := spacious(ps)
			first, _ := At(list, i)
			second, _ := At(list, i)
			want := api.Net{N: second.N, Edges: slices.Clone(second.Edges)}
			if !net.Same(first, want) {
				t.Fatalf("P0.5: At(%v, %d): %v, then %v", ps, i, first, want)
			}
			spoil(first.Edges, [2]int{-7, -7})
			if third, _ := At(list, i); !net.Same(second, want) || !net.Same(third, want) {
				t.Fatalf("P16.3: At(%v, %d): another answer has changed: %v, %v, not %v", ps, i, second, third, want)
			}
			if !sameRoom(list, ps) {
				t.Fatalf("P0.3: At(.., %d): what was handed in has changed: %v, not %v", i, list, ps)
			}
			spoil(list[i].Nodes, -7)
			spoil(list[i].Edges, badBond)
			if !net.Same(second, want) {
				t.Fatalf("P0.3: At(.., %d): %v, not %v any more", i, second, want)
			}
		}
	}
}

// TestSameAgain: the same arguments have the same answer, whatever was asked between.
func TestSameAgain(t *testing.T) {
	list := roomy(t)
	var first [][]api.Piece
	for _, g := range list {
		ps, _ := Of(g)
		first = append(first, ps)
	}
	for i, g := range slices.Backward(list) {
		if ps, _ := Of(g); !samePieces(ps, first[i]) {
			t.Fatalf("P0.5: Of(%v): %v, then %v", g, first[i], ps)
		}
	}
}

// TestNilAndEmpty: a nil list is the same as an empty one.
func TestNilAndEmpty(t *testing.T) {
	for _, n := range nums(0, 1, 2, 6, 1024, 1025) {
		ps, a := Of(api.Net{N: n})
		qs, b := Of(api.Net{N: n, Edges: [][2]int{}})
		if !samePieces(ps, qs) || a != b {
			t.Errorf("P0.4: Of %d nodes: %v, %v, and %v, %v", n, ps, a, qs, b)
		}
	}
	none, _ := At([]api.Piece{{}}, 0)
	empty, err := At([]api.Piece{{Nodes: []int{}, Edges: []api.Bond{}}}, 0)
	if !net.Same(none, empty) || err != api.OK {
		t.Errorf("P0.4: At: %v, %v, %v", none, empty, err)
	}
}
