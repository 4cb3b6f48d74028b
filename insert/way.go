package insert

import (
	"slices"

	"tracery/api"
	"tracery/rot"
)

// way: the half-edges across which the route leaves its faces, one behind the other, and a half-edge of the face in which it ends.
// The least edge at each place is the first list's: it tells the face beyond it, from which a way goes on that is as short.
func way(g api.Net, r api.Rot, u, v int) ([]int, int) {
	faces, _ := rot.Faces(g, r)
	of, _ := rot.Of(g, r)
	far := distances(faces, of, around(r[v], of))
	at := nearest(around(r[u], of), far)
	var over []int
	for far[at[0]] > 0 {
		h := nearer(faces, of, far, at)
		over = append(over, h)
		at = []int{of[h^1]}
	}
	return over, faces[at[0]][0]
}

// around: the faces that have a corner at the node of a list, each once, rising.
func around(list, of []int) []int {
	var at []int
	for _, h := range list {
		at = append(at, of[h])
	}
	slices.Sort(at)
	return slices.Compact(at)
}

// distances: how many edges each face is from the nearest of some faces, breadth first from all of these at once, or -1.
func distances(faces [][]int, of, from []int) []int {
	far := slices.Repeat([]int{-1}, len(faces))
	for _, f := range from {
		far[f] = 0
	}
	row := slices.Clone(from)
	for i := 0; i < len(row); i++ {
		for _, h := range faces[row[i]] {
			if beyond := of[h^1]; far[beyond] < 0 {
				far[beyond] = far[row[i]] + 1
				row = append(row, beyond)
			}
		}
	}
	return far
}

// nearest: those of some faces that are the least far.
func nearest(at, far []int) []int {
	least := far[at[0]]
	for _, f := range at {
		least = min(least, far[f])
	}
	return slices.DeleteFunc(at, func(f int) bool { return far[f] > least })
}

// nearer: of the half-edges of some faces that are equally far the least one across which a nearer face is.
func nearer(faces [][]int, of, far, at []int) int {
	least := -1
	for _, f := range at {
		for _, h := range faces[f] {
			if far[of[h^1]] < far[f] && (least < 0 || h < least) {
				least = h
			}
		}
	}
	return least
}
