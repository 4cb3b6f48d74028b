package embed

import "tracery/api"

// seam puts the rotations of parts together along the twins.
// Half-edges of real edges have their numbers in the net, those of virtual ones numbers behind these.
type seam struct {
	w       *ways
	virtual map[[2]int]int // of a part and its twin: the number of the edge between
	next    []int          // of each half-edge the one behind it round its node
	prev    []int
}

// put: the rotation of the net in which each part has the way of its digit.
func (w *ways) put(digits []int64) api.Rot {
	s := &seam{w: w, virtual: map[[2]int]int{}}
	for i := range w.parts {
		s.count(i)
	}
	edges := len(w.g.Edges) + len(s.virtual)
	s.next, s.prev = make([]int, 2*edges), make([]int, 2*edges)
	for i, digit := range digits {
		s.lay(i, w.way(i, digit))
	}
	for i := range w.parts {
		s.sewAll(i)
	}
	return s.rotation()
}

// count gives the virtual edges of the part i their numbers.
func (s *seam) count(i int) {
	for _, b := range s.w.parts[i].Edges {
		if b.Edge == none {
			s.virtual[[2]int{i, b.Twin}] = len(s.w.g.Edges) + len(s.virtual)
		}
	}
}

// half: the number of the half-edge h of the part i.
func (s *seam) half(i, h int) int {
	b := s.w.parts[i].Edges[h/2]
	switch {
	case b.Edge == none:
		return 2*s.virtual[[2]int{i, b.Twin}] + h%2
	case h%2 == 0:
		return halfAt(s.w.g, b.Edge, b.A)
	}
	return halfAt(s.w.g, b.Edge, b.B)
}

// lay lays the lists of the part i as rounds.
func (s *seam) lay(i int, r api.Rot) {
	for _, list := range r {
		for k, h := range list {
			s.join(s.half(i, h), s.half(i, list[(k+1)%len(list)]))
		}
	}
}

func (s *seam) join(h, behind int) {
	s.next[h], s.prev[behind] = behind, h
}

// sewAll sews the part i to those of its twins that have greater numbers, at both ends of the edge between.
func (s *seam) sewAll(i int) {
	for _, b := range s.w.parts[i].Edges {
		if b.Twin > i {
			e, twin := s.virtual[[2]int{i, b.Twin}], s.virtual[[2]int{b.Twin, i}]
			s.sew(2*e, 2*twin)
			s.sew(2*e+1, 2*twin+1)
		}
	}
}

// sew makes one round of two: what goes round from behind the one half-edge to ahead of it takes the place of the other one, its twin.
// What goes round the one end clockwise goes round the other end against it; so where both edges are taken out,
// the face on the left of the one and that on the right of the other become one, twice, and what was planar stays so.
func (s *seam) sew(h, twin int) {
	ahead, behind := s.prev[h], s.next[h]
	s.join(ahead, s.next[twin])
	s.join(s.prev[twin], behind)
}

// rotation: the rounds of the net's own half-edges, each from the least one on.
func (s *seam) rotation() api.Rot {
	r := make(api.Rot, s.w.g.N)
	for e, ends := range s.w.g.Edges {
		for side, v := range ends {
			if len(r[v]) == 0 {
				r[v] = s.roundFrom(2*e + side)
			}
		}
	}
	return r
}

func (s *seam) roundFrom(h int) []int {
	list := []int{h}
	for x := s.next[h]; x != h; x = s.next[x] {
		list = append(list, x)
	}
	return list
}
