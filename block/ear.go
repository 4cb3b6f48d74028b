package block

import (
	"tracery/api"
	"tracery/walk"
)

// Ear: the edges of a biconnected net as a cycle and, one behind the other, ears on it.
func Ear(g api.Net) ([][]int, api.Errno) {
	ok, err := Biconnected(g)
	switch {
	case err != api.OK:
		return nil, err
	case !ok:
		return nil, api.ErrBicon
	case len(g.Edges) < 2:
		return nil, api.ErrSmall
	}
	return ears(g), api.OK
}

// ears: each edge beside a depth first tree gives an ear: from its upper end down it, and up the tree to the first node that is on an ear.
// Upper ends come in the order of the tour, so the first ear goes from the top round to it, over the one node next below.
// No other ear ends where it begins: from each node next below another upper end, or from lower still, an edge leads higher than that end,
// and the ear that it gave before went over that node.
func ears(g api.Net) [][]int {
	tour, _ := walk.Depth(g, 0)
	out := outs(g)
	on := make([]bool, g.N)
	on[0] = true
	var list [][]int
	for _, v := range tour.Order {
		for _, h := range out[v] {
			if down := comesTo(g, h); tour.Far[down] > tour.Far[v] && tour.By[down] != h {
				list = append(list, climb(g, tour.By, on, h))
			}
		}
	}
	return list
}

// climb: h, and on up the tree to the first node that is on an ear; all nodes between are on one then.
func climb(g api.Net, by []int, on []bool, h int) []int {
	ear := []int{h}
	for v := comesTo(g, h); !on[v]; {
		on[v] = true
		up := by[v] ^ 1
		ear = append(ear, up)
		v = comesTo(g, up)
	}
	return ear
}
