package kura

import (
	"tracery/api"
	"tracery/net"
)

// Kinds of figures.
const (
	neither = 0
	five    = 5
	threes  = 33
)

// A figure is what edges form: its branch nodes in Branch's order, its paths in Paths'. One of neither kind has none of them.
type figure struct {
	kind   int
	branch []int
	paths  [][]int
}

// ways are the paths that are followed, by the branch nodes where they begin and end.
type ways map[[2]int][]int

// formed: what the edges form.
func formed(g api.Net, edges []int) (figure, api.Errno) {
	sub, err := net.Sub(g, edges)
	if err != api.OK {
		return figure{}, err
	}
	kind, branch := byDegrees(sub)
	if kind == neither {
		return figure{}, api.OK
	}
	found := followed(sub, branch)
	if kind == threes {
		branch = bySides(branch, found)
	}
	paths := chosen(found, branch, joined(kind))
	if covered(paths) != len(edges) {
		return figure{}, api.OK
	}
	for _, path := range paths {
		rename(path, edges)
	}
	return figure{kind, branch, paths}, api.OK
}

// byDegrees: the only kind that the degrees allow, and the nodes that would be its branch nodes, rising.
func byDegrees(sub api.Net) (int, []int) {
	degrees, _ := net.Degrees(sub)
	var of3, of4 []int
	for v, d := range degrees {
		switch d {
		case 0, 2:
		case 3:
			of3 = append(of3, v)
		case 4:
			of4 = append(of4, v)
		default:
			return neither, nil
		}
	}
	switch {
	case len(of3) == 0 && len(of4) == 5:
		return five, of4
	case len(of3) == 6 && len(of4) == 0:
		return threes, of3
	}
	return neither, nil
}

// followed: a path for each two branch nodes that some path joins, and one back.
// It matters not that a later path takes the place of an earlier one between the same two: then other two are left without.
func followed(sub api.Net, branch []int) ways {
	out := outs(sub)
	found := make(ways)
	for _, v := range branch {
		for _, h := range out[v] {
			path := follow(sub, out, h)
			found[[2]int{v, comesTo(sub, path[len(path)-1])}] = path
		}
	}
	return found
}

// follow: the half-edges from h on, through nodes of the degree 2, until the next branch node.
// It comes to an end: at such a node no two half-edges go on by the same one, and none goes on by h, which leaves a branch node.
func follow(sub api.Net, out [][]int, h int) []int {
	path := []int{h}
	for at := out[comesTo(sub, h)]; len(at) == 2; at = out[comesTo(sub, h)] {
		h = beside(at, h^1)
		path = append(path, h)
	}
	return path
}

// beside: of two half-edges the one that is not twin.
func beside(two []int, twin int) int {
	if two[0] == twin {
		return two[1]
	}
	return two[0]
}

// bySides: the branch nodes with those first that the least one is not joined with, which are of its side.
func bySides(branch []int, found ways) []int {
	var own, other []int
	for _, v := range branch {
		if found[[2]int{branch[0], v}] == nil {
			own = append(own, v)
		} else {
			other = append(other, v)
		}
	}
	return append(own, other...)
}

// chosen: for each two places in branch the path from the one to the other; nil, if there is none for some two.
// As many paths leave branch nodes as the kind has ends of them: if all two have theirs, no path is left over, and none is between others.
func chosen(found ways, branch []int, places [][2]int) [][]int {
	paths := make([][]int, len(places))
	for i, p := range places {
		paths[i] = found[[2]int{branch[p[0]], branch[p[1]]}]
		if paths[i] == nil {
			return nil
		}
	}
	return paths
}

// covered: how many edges the paths go over. A cycle apart from all branch nodes is what they may miss.
func covered(paths [][]int) int {
	count := 0
	for _, path := range paths {
		count += len(path)
	}
	return count
}

// joined: which branch nodes a path joins, by their places in Branch.
func joined(kind int) [][2]int {
	var places [][2]int
	if kind == five {
		for i := range 5 {
			for k := i + 1; k < 5; k++ {
				places = append(places, [2]int{i, k})
			}
		}
		return places
	}
	for i := range 3 {
		for k := 3; k < 6; k++ {
			places = append(places, [2]int{i, k})
		}
	}
	return places
}

// rename gives half-edges of the net with just these edges their numbers in the whole one.
func rename(path, edges []int) {
	for i, h := range path {
		path[i] = 2*edges[h/2] + h%2
	}
}

// outs: of each node the half-edges that leave it.
func outs(g api.Net) [][]int {
	out := make([][]int, g.N)
	for e, ends := range g.Edges {
		for side, v := range ends {
			out[v] = append(out[v], 2*e+side)
		}
	}
	return out
}

// comesTo: the node that the half-edge h comes to.
func comesTo(g api.Net, h int) int { return g.Edges[h/2][1-h%2] }
