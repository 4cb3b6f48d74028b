package rot

import (
	"slices"

	"tracery/api"
	"tracery/walk"
)

// Faces: each face from its least half-edge on, by their least half-edges; behind them an empty one for each isolated node.
func Faces(g api.Net, r api.Rot) ([][]int, api.Errno) {
	if err := May(g, r); err != api.OK {
		return nil, err
	}
	faces, _ := traced(nexts(r, 2*len(g.Edges)))
	for _, list := range r {
		if len(list) == 0 {
			faces = append(faces, nil)
		}
	}
	return faces, api.OK
}

// Of: of each half-edge the number of its face in Faces.
func Of(g api.Net, r api.Rot) ([]int, api.Errno) {
	if err := May(g, r); err != api.OK {
		return nil, err
	}
	_, of := traced(nexts(r, 2*len(g.Edges)))
	return of, api.OK
}

// Genus: by Euler's count of nodes, edges, faces and components.
func Genus(g api.Net, r api.Rot) (int, api.Errno) {
	faces, err := Faces(g, r)
	if err != api.OK {
		return 0, err
	}
	_, components, _ := walk.Parts(g)
	return (2*components - g.N + len(g.Edges) - len(faces)) / 2, api.OK
}

// nexts: of each of count half-edges the next one along its face, which stands behind its twin.
func nexts(r api.Rot, count int) []int {
	next := make([]int, count)
	for _, list := range r {
		for i, h := range list {
			next[h^1] = list[(i+1)%len(list)]
		}
	}
	return next
}

// traced: the faces that have half-edges, and of each half-edge the number of its face.
// Half-edges are taken in rising order, so that each face is met first at its least one.
func traced(next []int) ([][]int, []int) {
	var faces [][]int
	of := slices.Repeat([]int{-1}, len(next))
	for first := range next {
		if of[first] >= 0 {
			continue
		}
		var face []int
		for h := first; of[h] < 0; h = next[h] {
			of[h] = len(faces)
			face = append(face, h)
		}
		faces = append(faces, face)
	}
	return faces, of
}
