package dual

import (
	"slices"

	"tracery/api"
	"tracery/rot"
)

// Hop: the edges to be crossed on a shortest way between two faces, the first one in the order of lists of edges.
func Hop(g api.Net, r api.Rot, from, to int) ([]int, api.Errno) {
	faces, err := rot.Faces(g, r)
	if err != api.OK {
		return nil, err
	}
	if from < 0 || from >= len(faces) || to < 0 || to >= len(faces) {
		return nil, api.ErrBounds
	}
	of, _ := rot.Of(g, r)
	far := distances(faces, of, to)
	if far[from] < 0 {
		return nil, api.ErrNone
	}
	// The least edge at each place is the first list's, as from each nearer face a way goes on that is as short.
	var over []int
	for at := from; at != to; {
		h := nearer(faces[at], of, far, far[at]-1)
		over = append(over, h/2)
		at = of[h^1]
	}
	return over, api.OK
}

// distances: how many edges each face is from the face to, breadth first, or -1.
func distances(faces [][]int, of []int, to int) []int {
	far := slices.Repeat([]int{-1}, len(faces))
	far[to] = 0
	row := []int{to}
	for i := 0; i < len(row); i++ {
		for _, h := range faces[row[i]] {
			if beyond := of[h^1]; far[beyond] < 0 {
				far[beyond] = far[row[i]] + 1
				row = append(row, beyond)
			}
		}
	}
	return far
}

// nearer: of a face's half-edges the least one across which a face of that distance lies, or -1.
func nearer(face, of, far []int, distance int) int {
	least := -1
	for _, h := range face {
		if far[of[h^1]] == distance && (least < 0 || h < least) {
			least = h
		}
	}
	return least
}
