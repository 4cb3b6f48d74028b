package planar

import "slices"

// A layout is what stands round the tree edges of a piece.
type layout struct {
	open        []int   // of each node the tree edge by which the walk went on from it last
	left, right [][]int // of each tree edge the half-edges, at the node it leaves, of return edges from below it, in the order met
}

// laid: a planar rotation of the piece, whose search came to its end.
// Each node has first the half-edge that leads up, then those by which it is left, from the far left to the far right;
// right beside a tree edge stand the return edges that come from below it, those met last farthest to the left.
func (s *search) laid() [][]int {
	for e := range s.nest {
		s.nest[e] *= s.sideOf(e)
	}
	s.arrange()
	m := len(s.net.Edges)
	l := &layout{open: make([]int, s.net.N), left: make([][]int, m), right: make([][]int, m)}
	s.lay(l, 0)
	lists := make([][]int, s.net.N)
	for v := range lists {
		if s.by[v] != none {
			lists[v] = append(lists[v], s.by[v]^1)
		}
		for _, h := range s.out[v] {
			slices.Reverse(l.left[h/2])
			slices.Reverse(l.right[h/2])
			lists[v] = append(lists[v], l.left[h/2]...)
			lists[v] = append(lists[v], h)
			lists[v] = append(lists[v], l.right[h/2]...)
		}
	}
	return lists
}

// sideOf: 1, if e is on the right, -1 on the left. It hangs on nothing from then on.
func (s *search) sideOf(e int) int {
	if on := s.ref[e]; on != none {
		s.side[e] *= s.sideOf(on)
		s.ref[e] = none
	}
	return s.side[e]
}

// lay puts the return edges from v and from below it beside the tree edges that they come back to.
func (s *search) lay(l *layout, v int) {
	for _, h := range s.out[v] {
		w := s.comesTo(h)
		if s.by[w] == h {
			l.open[v] = h / 2
			s.lay(l, w)
			continue
		}
		at := l.open[w]
		if s.side[h/2] > 0 {
			l.right[at] = append(l.right[at], h^1)
		} else {
			l.left[at] = append(l.left[at], h^1)
		}
	}
}
