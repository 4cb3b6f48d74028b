package glue

import (
	"math/rand"
	"slices"
	"testing"

	"tracery/api"
	"tracery/net"
)

// whole is a list with its spare room.
func whole[T any](list []T) []T { return list[:cap(list)] }

// spoil writes over a list, its spare room too.
func spoil[T any](list []T, x T) {
	for i := range whole(list) {
		whole(list)[i] = x
	}
}

var (
	badBond  = api.Bond{A: -7, B: -7, Edge: -7, Twin: -7}
	badPiece = api.Piece{Kind: -7}
	badEnds  = [2]int{-7, -7}
)

// spacious is a copy of the parts with spare room behind each list, and something bad in it.
func spacious(ps []api.Piece) []api.Piece {
	list := append(copied(ps), badPiece)[:len(ps)]
	for i, p := range list {
		list[i].Nodes = append(p.Nodes, -7)[:len(p.Nodes)]
		list[i].Edges = append(p.Edges, badBond)[:len(p.Edges)]
	}
	return list
}

// sameRoom: whether the lists are the same, and the spare room behind them is as spacious left it.
func sameRoom(list, ps []api.Piece) bool {
	if !samePieces(list, ps) || !samePiece(list[:len(ps)+1][len(ps)], badPiece) {
		return false
	}
	for _, p := range list {
		if p.Nodes[:len(p.Nodes)+1][len(p.Nodes)] != -7 || p.Edges[:len(p.Edges)+1][len(p.Edges)] != badBond {
			return false
		}
	}
	return true
}

// spoilAll writes over the parts, in all their depth.
func spoilAll(ps []api.Piece) {
	for _, p := range ps {
		spoil(p.Nodes, -7)
		spoil(p.Edges, badBond)
	}
	spoil(ps, badPiece)
}

// lists are parts of all sorts, and some that may not be.
func lists(t *testing.T) [][]api.Piece {
	t.Helper()
	r := rand.New(rand.NewSource(186))
	list := small(t)
	for _, row := range slices.Concat(withoutKind(), withoutTwins(), withoutTree(), withoutNodes()) {
		if len(row.ps) < 10 && len(row.ps) > 0 && len(row.ps[0].Nodes) < 20 {
			list = append(list, row.ps)
		}
	}
	for i := range 40 {
		list = append(list, mixed(r, renamed(r, grow(t, r, i, i%5 == 0).parts)))
	}
	return list
}

// told is all that is answered of a list of parts.
type told struct {
	may       bool
	g, tree   api.Net
	order     []api.Piece
	side      []int
	noNet     api.Errno
	noOrder   api.Errno
	noTree    api.Errno
	noSide    api.Errno
	sideEnds  [2]int
	sideKnown bool
}

// tell asks all calls; for a Side of the first part that has a twin.
func tell(ps []api.Piece) told {
	var x told
	x.may = May(ps)
	x.g, x.noNet = Net(ps)
	x.order, x.noOrder = Order(ps)
	x.tree, x.noTree = Tree(ps)
	for i, p := range ps {
		if twins := twinsOf(p); len(twins) > 0 && !x.sideKnown {
			x.sideEnds, x.sideKnown = [2]int{i, twins[0]}, true
		}
	}
	x.side, x.noSide = Side(ps, x.sideEnds[0], x.sideEnds[1])
	return x
}

func (x told) copied() told {
	x.g.Edges, x.tree.Edges = slices.Clone(x.g.Edges), slices.Clone(x.tree.Edges)
	x.order, x.side = copied(x.order), slices.Clone(x.side)
	return x
}

func (x told) same(y told) bool {
	return x.may == y.may && net.Same(x.g, y.g) && net.Same(x.tree, y.tree) && samePieces(x.order, y.order) && slices.Equal(x.side, y.side) &&
		x.noNet == y.noNet && x.noOrder == y.noOrder && x.noTree == y.noTree && x.noSide == y.noSide
}

// TestNewMemory: answers are the same again, and may be written over: nothing else changes, no other list of the same answer either.
func TestNewMemory(t *testing.T) {
	for _, ps := range lists(t) {
		list := spacious(ps)
		first, second := tell(list), tell(list)
		want := second.copied()
		if !first.same(want) {
			t.Fatalf("P0.5: of %v: %v, then %v", ps, first, want)
		}
		spoil(first.g.Edges, badEnds)
		spoil(first.tree.Edges, badEnds)
		spoil(first.side, -7)
		for i, p := range first.order {
			spoil(p.Nodes, -7)
			if !slices.Equal(p.Edges, want.order[i].Edges) {
				t.Fatalf("P17.3: Order(%v): the nodes of the part %d share memory with its edges", ps, i)
			}
			spoil(p.Edges, badBond)
			if !samePieces(first.order[i+1:], want.order[i+1:]) {
				t.Fatalf("P17.3: Order(%v): the part %d shares memory", ps, i)
			}
		}
		spoil(first.order, badPiece)
		if !second.same(want) || !tell(list).same(want) {
			t.Fatalf("P17.3: of %v: another answer has changed: %v, not %v", ps, second, want)
		}
		if !sameRoom(list, ps) {
			t.Fatalf("P17.3: what was handed in has changed: %v, not %v", list, ps)
		}
	}
}

// TestNothingKept: an answer stays when what was handed in is written over, and so do later ones.
func TestNothingKept(t *testing.T) {
	for _, ps := range lists(t) {
		list := spacious(ps)
		got := tell(list)
		want := got.copied()
		spoilAll(list)
		if !got.same(want) {
			t.Fatalf("P17.3: of %v: %v, not %v any more", ps, got, want)
		}
		if again := tell(copied(ps)); !again.same(want) {
			t.Fatalf("P0.5: of %v: %v, then %v", ps, want, again)
		}
	}
}

// TestSameAgain: the same arguments have the same answer, whatever was asked between.
func TestSameAgain(t *testing.T) {
	all := lists(t)
	var first []told
	for _, ps := range all {
		first = append(first, tell(ps))
	}
	for i, ps := range slices.Backward(all) {
		if x := tell(ps); !x.same(first[i]) {
			t.Fatalf("P0.5: of %v: %v, then %v", ps, first[i], x)
		}
	}
}

// TestNilAndEmpty: a nil list is the same as an empty one, in all its depth.
func TestNilAndEmpty(t *testing.T) {
	checkNone(t, nil)
	checkNone(t, []api.Piece{})
	checkNone(t, []api.Piece{{Kind: api.Ring}})
	checkNone(t, []api.Piece{{Kind: api.Ring, Nodes: []int{}, Edges: []api.Bond{}}})
	checkNone(t, append(chord(), api.Piece{Kind: api.Sheaf, Nodes: []int{}, Edges: []api.Bond{}}))
}
