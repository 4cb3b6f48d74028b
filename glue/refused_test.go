package glue

import (
	"math"
	"slices"
	"testing"

	"tracery/api"
)

// refusal is a list of parts of which one word of the chapter does not hold.
type refusal struct {
	name string
	ps   []api.Piece
}

// changed is the parts of the cycle of 4 with a chord, but for what is done to them.
func changed(do func(ps []api.Piece)) []api.Piece {
	ps := chord()
	do(ps)
	return ps
}

// ofEdges is one part of that kind with real edges alone, their ends in a row.
func ofEdges(kind int, ends ...int) []api.Piece {
	p := api.Piece{Kind: kind}
	for i := 0; i+1 < len(ends); i += 2 {
		p.Edges = append(p.Edges, bond(ends[i], ends[i+1], i/2, -1))
	}
	return []api.Piece{piece(kind, p.Edges)}
}

// withoutKind are parts that are not what their Kind says.
func withoutKind() []refusal {
	list := []refusal{{"no parts", nil}, {"a part with nothing", []api.Piece{{}}}, {"a part with a kind alone", []api.Piece{{Kind: api.Sheaf}}}}
	for _, kind := range nums(0, 4, -1, math.MinInt, math.MaxInt) {
		list = append(list, refusal{"a kind that is none", ofEdges(kind, 0, 1, 1, 2, 2, 0)})
		list = append(list, refusal{"a kind that is none, of one of three", changed(func(ps []api.Piece) { ps[2].Kind = kind })})
	}
	k4 := nums(0, 1, 0, 2, 0, 3, 1, 2, 1, 3, 2, 3)
	return append(list,
		refusal{"a Ring of two edges", ofEdges(api.Ring, 0, 1, 0, 1)},
		refusal{"a Ring that is a Sheaf", ofEdges(api.Ring, 0, 1, 0, 1, 0, 1)},
		refusal{"a Ring that is a Rigid", ofEdges(api.Ring, k4...)},
		refusal{"a Ring that is a path", ofEdges(api.Ring, 0, 1, 1, 2, 2, 3)},
		refusal{"a Ring with a chord", ofEdges(api.Ring, 0, 1, 1, 2, 2, 3, 3, 0, 0, 2)},
		refusal{"a Ring with an edge twice", ofEdges(api.Ring, 0, 1, 1, 2, 2, 0, 0, 1)},
		refusal{"a Ring with an edge that hangs there", ofEdges(api.Ring, 0, 1, 1, 2, 2, 0, 2, 3)},
		refusal{"a Ring of two edges with a third one", ofEdges(api.Ring, 0, 1, 1, 0, 1, 2)},
		refusal{"a Ring that is two cycles", ofEdges(api.Ring, 0, 1, 1, 2, 2, 0, 3, 4, 4, 5, 5, 3)},
		refusal{"a Ring that is two cycles of two", ofEdges(api.Ring, 0, 1, 1, 0, 2, 3, 2, 3)},
		refusal{"a Ring that is two cycles at a node", ofEdges(api.Ring, 0, 1, 1, 2, 2, 0, 2, 3, 3, 4, 4, 2)},
		refusal{"a Sheaf of two edges", ofEdges(api.Sheaf, 0, 1, 0, 1)},
		refusal{"a Sheaf of one edge", ofEdges(api.Sheaf, 0, 1)},
		refusal{"a Sheaf of three nodes", ofEdges(api.Sheaf, 0, 1, 0, 1, 0, 1, 1, 2)},
		refusal{"a Sheaf that is a Ring", ofEdges(api.Sheaf, 0, 1, 1, 2, 2, 0)},
		refusal{"a Sheaf that is a Rigid", ofEdges(api.Sheaf, k4...)},
		refusal{"a Sheaf of an edge and a virtual one", []api.Piece{ring(edge(0, 1, 0), edge(1, 2, 1), twin(0, 2, 1)), sheaf(edge(0, 2, 2), twin(0, 2, 0))}},
		refusal{"a Rigid that is a Ring", ofEdges(api.Rigid, 0, 1, 1, 2, 2, 0)},
		refusal{"a Rigid that is a Sheaf", ofEdges(api.Rigid, 0, 1, 0, 1, 0, 1)},
		refusal{"a Rigid with an edge twice", ofEdges(api.Rigid, append(k4, 1, 3)...)},
		refusal{"a Rigid with an edge and a virtual one just so", []api.Piece{
			rigid(edge(0, 1, 0), edge(0, 2, 1), edge(0, 3, 2), edge(1, 2, 3), edge(1, 3, 4), edge(2, 3, 5), twin(0, 1, 1)), sheaf(edge(0, 1, 6), edge(0, 1, 7), twin(0, 1, 0))}},
		refusal{"a Rigid of level 2", ofEdges(api.Rigid, 0, 1, 1, 2, 2, 3, 3, 0, 0, 2)},
		refusal{"a Rigid of level 2 with many edges", ofEdges(api.Rigid, append(k4, 0, 4, 0, 5, 1, 4, 1, 5, 4, 5)...)},
		refusal{"a Rigid of level 1", ofEdges(api.Rigid, append(k4, 3, 4, 3, 5, 3, 6, 4, 5, 4, 6, 5, 6)...)},
		refusal{"a Rigid of level 0", ofEdges(api.Rigid, append(k4, 4, 5, 4, 6, 4, 7, 5, 6, 5, 7, 6, 7)...)},
		refusal{"a Sheaf that is called a Rigid, one of three parts", changed(func(ps []api.Piece) { ps[1].Kind = api.Rigid })},
	)
}

// withoutTwins are lists whose virtual edges have no right twins.
func withoutTwins() []refusal {
	var list []refusal
	for _, x := range append(strange(), 3) {
		if x != -1 {
			list = append(list, refusal{"a Twin that names no part", changed(func(ps []api.Piece) { ps[0].Edges[2].Twin = x })})
			list = append(list, refusal{"a real edge that has a Twin", changed(func(ps []api.Piece) { ps[0].Edges[0].Twin = x })})
			list = append(list, refusal{"a virtual edge that has a number", changed(func(ps []api.Piece) { ps[0].Edges[2].Edge = x })})
		}
	}
	many := sheaf(edge(0, 1, 0), edge(0, 1, 1), twin(0, 1, 1), twin(0, 1, 1))
	return append(list,
		refusal{"a Twin that names its own part", changed(func(ps []api.Piece) { ps[0].Edges[2].Twin = 0 })},
		refusal{"a Twin that names a part which names another one", changed(func(ps []api.Piece) { ps[0].Edges[2].Twin = 2 })},
		refusal{"two that name one another, a third one that names one of them", changed(func(ps []api.Piece) { ps[1].Edges[2].Twin = 0 })},
		refusal{"an edge that is neither", changed(func(ps []api.Piece) { ps[0].Edges[2].Twin = -1 })},
		refusal{"a real edge that has a Twin and a number", changed(func(ps []api.Piece) { ps[0].Edges[0].Twin = 2 })},
		refusal{"a virtual edge that has the number of a real one", changed(func(ps []api.Piece) { ps[0].Edges[2].Edge = 0 })},
		refusal{"a virtual edge that has a number of its own", changed(func(ps []api.Piece) { ps[0].Edges[2].Edge = 5 })},
		refusal{"a real edge without a number", changed(func(ps []api.Piece) { ps[0].Edges[1].Edge = -1 })},
		refusal{"a virtual edge whose twin has other ends", changed(func(ps []api.Piece) {
			ps[0] = ring(edge(0, 2, 0), edge(1, 2, 1), twin(0, 1, 1))
		})},
		refusal{"a virtual edge whose twin is missing", changed(func(ps []api.Piece) { ps[1] = sheaf(edge(0, 2, 4), edge(0, 2, 5), twin(0, 2, 2)) })},
		refusal{"a virtual edge that has no twin, and no other part", []api.Piece{ring(edge(0, 1, 0), edge(1, 2, 1), edge(2, 3, 2), twin(0, 3, 1))}},
		refusal{"a virtual edge that is its own twin", []api.Piece{ring(edge(0, 1, 0), edge(1, 2, 1), edge(2, 3, 2), twin(0, 3, 0))}},
		refusal{"two virtual edges that are twins in one part", []api.Piece{sheaf(edge(0, 1, 0), edge(0, 1, 1), edge(0, 1, 2), twin(0, 1, 0), twin(0, 1, 0))}},
		refusal{"two virtual edges with the same Twin, one of them without its own", []api.Piece{
			many, ring(edge(1, 2, 2), edge(0, 2, 3), twin(0, 1, 0)), ring(edge(1, 3, 4), edge(0, 3, 5), twin(0, 1, 0))}},
		refusal{"two parts that are twins twice, at the same nodes", []api.Piece{
			many, ring(edge(0, 2, 2), edge(1, 2, 3), twin(0, 1, 0), twin(0, 1, 0))}},
		refusal{"two parts that are twins twice, at unlike nodes", []api.Piece{
			rigid(edge(0, 2, 0), edge(0, 3, 1), edge(1, 2, 2), edge(1, 3, 3), twin(0, 1, 1), twin(2, 3, 1)),
			rigid(edge(0, 2, 4), edge(0, 3, 5), edge(1, 2, 6), edge(1, 3, 7), twin(0, 1, 0), twin(2, 3, 0))}},
		refusal{"two Rings that are twins", []api.Piece{
			ring(edge(0, 1, 0), edge(1, 2, 1), twin(0, 2, 1)), ring(edge(2, 3, 2), edge(0, 3, 3), twin(0, 2, 0))}},
		refusal{"two Sheaves that are twins", []api.Piece{
			sheaf(edge(0, 1, 0), edge(0, 1, 1), twin(0, 1, 1)), sheaf(edge(0, 1, 2), edge(0, 1, 3), twin(0, 1, 0))}},
	)
}

// withoutTree are lists whose twins make no tree.
func withoutTree() []refusal {
	far := []api.Piece{ring(edge(4, 5, 5), edge(5, 6, 6), edge(4, 6, 7))}
	near := []api.Piece{ring(edge(0, 1, 0), edge(1, 2, 1), edge(0, 2, 2)), ring(edge(0, 1, 3), edge(1, 2, 4), edge(0, 2, 5))}
	apart := []api.Piece{ring(edge(0, 1, 0), edge(1, 2, 1), edge(0, 2, 2)), ring(edge(2, 3, 3), edge(3, 4, 4), edge(2, 4, 5))}
	return []refusal{
		{"two parts that hang on nothing", []api.Piece{ring(edge(0, 1, 0), edge(1, 2, 1), edge(0, 2, 2)), sheaf(edge(3, 4, 3), edge(3, 4, 4), edge(3, 4, 5))}},
		{"a part behind that hangs on nothing", append(chord(), far...)},
		{"two parts without twins that have all nodes in common", near},
		{"two parts without twins that have a node in common", apart},
		{"a cycle of three Rigids", cycleOfParts(3)},
		{"a cycle of five Rigids", cycleOfParts(5)},
		{"parts in a round at a node", roundOfParts(3)},
		{"parts in a round at a node, and a part that has the node", append(roundOfParts(3), ring(edge(0, 4, 6), edge(4, 5, 7), edge(0, 5, 8)))},
		{"more parts in a round at a node, and a part that has the node", append(roundOfParts(5), ring(edge(0, 6, 10), edge(6, 7, 11), edge(0, 7, 12)))},
		{"a cycle of three Rigids, and a part beside", append(cycleOfParts(3), piece(api.Ring, []api.Bond{edge(9, 10, 12), edge(10, 11, 13), edge(9, 11, 14)}))},
	}
}

// cycleOfParts are K4 in a round, each the twin of the two beside it: all is right but that.
func cycleOfParts(count int) []api.Piece {
	var ps []api.Piece
	for i := range count {
		next, back := (i+1)%count, (i+count-1)%count
		a, b, c, d := 2*i, 2*i+1, 2*next, 2*next+1
		ps = append(ps, piece(api.Rigid, []api.Bond{bond(a, b, -1, back), bond(c, d, -1, next), bond(a, c, 4*i, -1), bond(a, d, 4*i+1, -1), bond(b, c, 4*i+2, -1), bond(b, d, 4*i+3, -1)}))
	}
	return ps
}

// roundOfParts are Rings, then Sheaves, in a round at the node 0: with a part beside there are as many twins as in a tree.
func roundOfParts(count int) []api.Piece {
	var rings, sheaves []api.Piece
	for i := range count {
		next, back := (i+1)%count, (i+count-1)%count
		rings = append(rings, ring(bond(1+i, 1+next, i, -1), twin(0, 1+i, count+i), twin(0, 1+next, count+next)))
		sheaves = append(sheaves, sheaf(edge(0, 1+i, count+i), twin(0, 1+i, i), twin(0, 1+i, back)))
	}
	return append(rings, sheaves...)
}

// withoutNumbers are lists whose real edges have not just the numbers 0 to m - 1, or are too few or too many.
func withoutNumbers() []refusal {
	most := ofEdges(api.Sheaf, slices.Repeat(nums(0, 1), 3073)...)
	list := []refusal{
		{"a number twice", changed(func(ps []api.Piece) { ps[0].Edges[0].Edge = 1 })},
		{"a number twice, in unlike parts", changed(func(ps []api.Piece) { ps[0].Edges[0].Edge = 4 })},
		{"a number beyond the last one", changed(func(ps []api.Piece) { ps[2].Edges[1].Edge = 5 })},
		{"no number 0", []api.Piece{ring(edge(0, 1, 1), edge(1, 2, 2), edge(0, 2, 3))}},
		{"two edges alone", ofEdges(api.Sheaf, 0, 1, 0, 1)},
		{"virtual edges alone", []api.Piece{sheaf(twin(0, 1, 1), twin(0, 1, 2), twin(0, 1, 3)), ring(twin(0, 1, 0)), ring(twin(0, 1, 0)), ring(twin(0, 1, 0))}},
		{"an edge too many", most},
		{"an edge too many, in two parts", []api.Piece{ring(edge(0, 2, 3071), edge(1, 2, 3072), twin(0, 1, 1)), piece(api.Sheaf, append(slices.Clone(most[0].Edges[:3071]), twin(0, 1, 0)))}},
	}
	for _, x := range strange() {
		list = append(list, refusal{"a number that is none", changed(func(ps []api.Piece) { ps[1].Edges[0].Edge = x })})
	}
	return list
}

// round is a Ring of those nodes.
func round(nodes ...int) []api.Piece {
	var ends []int
	for i, v := range nodes {
		ends = append(ends, v, nodes[(i+1)%len(nodes)])
	}
	return ofEdges(api.Ring, ends...)
}

// withoutNodes are lists whose nodes are not just 0 to n - 1, or not those of the edges, or in common where they should not be.
func withoutNodes() []refusal {
	wide := make([]int, 1025)
	for v := range wide {
		wide[v] = v
	}
	list := []refusal{
		{"no node 0", round(1, 2, 3)}, {"a node left out", round(0, 1, 3)}, {"a node below 0", round(-1, 0, 1)}, {"nodes below 0 alone", round(-3, -2, -1)},
		{"a node far above", round(0, 1, math.MaxInt)}, {"a node far below", round(math.MinInt, 0, 1)}, {"both", round(math.MinInt, 0, 1, math.MaxInt)},
		{"a node left out, in one of three parts", changed(func(ps []api.Piece) { ps[2] = ring(edge(2, 4, 2), edge(0, 4, 3), twin(0, 2, 1)) })},
		{"a node too many", round(wide...)}, {"a node far above in one of three parts", changed(func(ps []api.Piece) { ps[2] = ring(edge(2, 1024, 2), edge(0, 1024, 3), twin(0, 2, 1)) })},
		{"nodes that do not rise", changed(func(ps []api.Piece) { slices.Reverse(ps[0].Nodes) })},
		{"nodes, two of them in the wrong order", changed(func(ps []api.Piece) { ps[2].Nodes = nums(0, 3, 2) })},
		{"a node that stands twice", changed(func(ps []api.Piece) { ps[0].Nodes = nums(0, 1, 1, 2) })},
		{"a node missing", changed(func(ps []api.Piece) { ps[0].Nodes = nums(0, 2) })},
		{"no nodes", changed(func(ps []api.Piece) { ps[1].Nodes = nil })},
		{"a node more", changed(func(ps []api.Piece) { ps[0].Nodes = nums(0, 1, 2, 3) })},
		{"a node more that no part has else", changed(func(ps []api.Piece) { ps[1].Nodes = nums(0, 2, 4) })},
		{"another node", changed(func(ps []api.Piece) { ps[1].Nodes = nums(0, 1) })},
		{"a third node in common, beyond a part that lacks it", changed(func(ps []api.Piece) { ps[2] = ring(edge(1, 2, 2), edge(0, 1, 3), twin(0, 2, 1)) })},
		{"twins with a third node in common", []api.Piece{
			rigid(edge(0, 2, 0), edge(0, 3, 1), edge(1, 2, 2), edge(1, 3, 3), edge(2, 3, 4), twin(0, 1, 1)),
			rigid(edge(0, 2, 5), edge(0, 4, 6), edge(1, 2, 7), edge(1, 4, 8), edge(2, 4, 9), twin(0, 1, 0))}},
		{"twins with all nodes in common", []api.Piece{
			rigid(edge(0, 2, 0), edge(0, 3, 1), edge(1, 2, 2), edge(1, 3, 3), edge(2, 3, 4), twin(0, 1, 1)),
			rigid(edge(0, 2, 5), edge(0, 3, 6), edge(1, 2, 7), edge(1, 3, 8), edge(2, 3, 9), twin(0, 1, 0))}},
		{"the greater node first", changed(func(ps []api.Piece) { ps[0].Edges[0].A, ps[0].Edges[0].B = 1, 0 })},
		{"the greater node first, of a virtual edge", changed(func(ps []api.Piece) { ps[0].Edges[2].A, ps[0].Edges[2].B = 2, 0 })},
		{"the greater node first, of a virtual edge and of its twin", changed(func(ps []api.Piece) {
			ps[0].Edges[2].A, ps[0].Edges[2].B, ps[1].Edges[1].A, ps[1].Edges[1].B = 2, 0, 2, 0
		})},
		{"a loop", ofEdges(api.Rigid, 0, 1, 0, 2, 0, 3, 1, 2, 1, 3, 2, 3, 3, 3)},
		{"a loop in a Sheaf", ofEdges(api.Sheaf, 0, 1, 0, 1, 0, 1, 1, 1)},
	}
	for _, v := range slices.DeleteFunc(strange(), func(v int) bool { return v == -1 }) {
		list = append(list, refusal{"a node that is none", changed(func(ps []api.Piece) { ps[0].Nodes[1] = v })})
		list = append(list, refusal{"an end that is none", changed(func(ps []api.Piece) { ps[0].Edges[0].B = v })})
	}
	return list
}

func TestRefused(t *testing.T) {
	for _, row := range slices.Concat(withoutKind(), withoutTwins(), withoutTree(), withoutNumbers(), withoutNodes()) {
		if fault(row.ps) == "" {
			t.Errorf("nothing is wrong with %s: %v", row.name, row.ps)
		}
		if May(row.ps) {
			t.Errorf("P17.1: May of %s: %v", row.name, row.ps)
		}
		checkNone(t, row.ps)
	}
	check(t, chord())
}
