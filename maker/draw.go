package maker

import "tracery/api"

// A source is the state from which numbers are drawn; it wraps at 64 bits.
type source uint64

// draw: the next number, below n (which is 1 or more).
func (s *source) draw(n int) int {
	*s = *s*6364136223846793005 + 1442695040888963407
	return int(uint64(*s>>33) % uint64(n))
}

// Random: n nodes, and m edges whose ends are drawn.
func Random(n, m int, seed uint64) (api.Net, api.Errno) {
	if n < 1 || m < 0 {
		return api.Net{}, api.ErrArg
	}
	if !fits(n, m) {
		return api.Net{}, api.ErrLimit
	}
	s := source(seed)
	g := room(n, m)
	for range m {
		// One behind the other: the first end is drawn first.
		u := s.draw(n)
		v := s.draw(n)
		tie(&g, u, v)
	}
	return g, api.OK
}

// Stack: a cycle of 3, then node by node into a triangle that is drawn, with an edge to each of its nodes.
func Stack(n int, seed uint64) (api.Net, api.Errno) {
	if n < 3 {
		return api.Net{}, api.ErrArg
	}
	if huge(n) || !fits(n, 3*n-6) {
		return api.Net{}, api.ErrLimit
	}
	g := room(n, 3*n-6)
	for v := range 3 {
		tie(&g, v, (v+1)%3)
	}
	s := source(seed)
	triangles := [][3]int{{0, 1, 2}, {0, 2, 1}}
	for v := 3; v < n; v++ {
		i := s.draw(len(triangles))
		a, b, c := triangles[i][0], triangles[i][1], triangles[i][2]
		tie(&g, v, a)
		tie(&g, v, b)
		tie(&g, v, c)
		triangles[i] = [3]int{a, b, v}
		triangles = append(triangles, [3]int{b, c, v}, [3]int{c, a, v})
	}
	return g, api.OK
}
