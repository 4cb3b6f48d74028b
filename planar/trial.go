package planar

import "slices"

// A run is return edges that must be on one side, from the one that ends lowest to the one that ends highest: each refers to the next one.
type run struct{ first, last int }

// A pair is two runs that must be on unlike sides.
type pair struct{ left, right run }

func emptyRun() run { return run{none, none} }

func (r run) isEmpty() bool { return r.first == none }

// A trial is what is known of the sides of edges.
type trial struct {
	tried []int  // the edges that were come to, in order
	begun []int  // of each node how many that were when the trial came to it
	stack []pair // what is open; what comes of edges that were tried later lies above
	under []int  // of each edge how many pairs were open when the trial came to it
	chief []int  // of each edge the return edge, itself or one from below it, that ends highest
	ref   []int  // of each edge the one to which it refers, for its side hangs on that one's; none, if it hangs on nothing
	side  []int  // of each edge 1, if it is on the same side as the one it refers to (or on the right, if that is none), else -1
}

func untried(n, m int) trial {
	return trial{
		begun: make([]int, n),
		under: make([]int, m),
		chief: make([]int, m),
		ref:   slices.Repeat([]int{none}, m),
		side:  slices.Repeat([]int{1}, m),
	}
}

// pop takes the topmost pair off the stack.
func (t *trial) pop() pair {
	p := t.stack[len(t.stack)-1]
	t.stack = t.stack[:len(t.stack)-1]
	return p
}

// test tries all edges that go on from v and from below it, and gives up where their return edges find no sides.
func (s *search) test(v int) {
	s.begun[v] = len(s.tried)
	for i, h := range s.out[v] {
		e := h / 2
		s.tried = append(s.tried, e)
		s.under[e] = len(s.stack)
		if w := s.comesTo(h); s.by[w] == h {
			s.test(w)
		} else {
			s.chief[e] = e
			s.stack = append(s.stack, pair{emptyRun(), run{e, e}})
		}
		if s.low[e] >= s.depth[v] {
			continue
		}
		if up := s.by[v] / 2; i == 0 {
			s.chief[up] = s.chief[e]
		} else {
			s.bind(e, up)
		}
	}
	if s.by[v] != none {
		s.finish(s.by[v] / 2)
	}
}

// bind holds the return edges of e against those of the edges that were tried ahead of it at the node to which the tree edge up comes:
// those of e are on the right, those of the others that end below e's highest end on the left, and what goes with the one or the other, there too.
func (s *search) bind(e, up int) {
	p := pair{emptyRun(), s.together(e, up)}
	for len(s.stack) > 0 && s.crosses(s.stack[len(s.stack)-1], e) {
		q := s.pop()
		if s.reachesBelow(q.right, e) {
			q.left, q.right = q.right, q.left
		}
		if s.reachesBelow(q.right, e) {
			s.giveUp(e)
		}
		p.right = s.linked(p.right, q.right)
		p.left = s.linked(p.left, q.left)
	}
	if !p.left.isEmpty() || !p.right.isEmpty() {
		s.stack = append(s.stack, p)
	}
}

// together: as one run the return edges of e that end below the highest end of those ahead, which is up's too.
// Runs with one that ends as high as that go along with the chief of up.
func (s *search) together(e, up int) run {
	all := emptyRun()
	for len(s.stack) > s.under[e] {
		q := s.pop()
		if !q.left.isEmpty() {
			q.left, q.right = q.right, q.left
		}
		if !q.left.isEmpty() {
			s.giveUp(e)
		}
		if s.low[q.right.last] > s.low[up] {
			all = s.linked(all, q.right)
		} else {
			s.ref[q.right.last] = s.chief[up]
		}
	}
	return all
}

// linked: the run a, and behind it b, whose edges end higher.
func (s *search) linked(a, b run) run {
	switch {
	case a.isEmpty():
		return b
	case b.isEmpty():
		return a
	}
	s.ref[a.last] = b.first
	return run{a.first, b.last}
}

// crosses: whether an edge of p ends below the highest end of e's.
func (s *search) crosses(p pair, e int) bool {
	return s.reachesBelow(p.left, e) || s.reachesBelow(p.right, e)
}

func (s *search) reachesBelow(r run, e int) bool {
	return !r.isEmpty() && s.low[r.first] > s.low[e]
}

// finish: all below the tree edge up is tried. Return edges that end at the node it leaves bind nothing from there on.
// The side of up is that of the one that ends lowest among the others.
func (s *search) finish(up int) {
	v := s.leaves(s.way[up])
	for len(s.stack) > 0 && s.highest(s.stack[len(s.stack)-1]) == s.depth[v] {
		if p := s.pop(); !p.left.isEmpty() {
			s.side[p.left.last] = -1
		}
	}
	if len(s.stack) == 0 {
		return
	}
	p := &s.stack[len(s.stack)-1]
	p.left = s.shortened(p.left, p.right, v)
	p.right = s.shortened(p.right, p.left, v)
	if s.low[up] < s.depth[v] {
		s.ref[up] = s.lowest(*p)
	}
}

// highest: the least depth at which an edge of p ends.
func (s *search) highest(p pair) int {
	switch {
	case p.left.isEmpty():
		return s.low[p.right.last]
	case p.right.isEmpty():
		return s.low[p.left.last]
	}
	return min(s.low[p.left.last], s.low[p.right.last])
}

// lowest: the edge of p that ends at the greatest depth.
func (s *search) lowest(p pair) int {
	if p.right.isEmpty() || !p.left.isEmpty() && s.low[p.left.first] > s.low[p.right.first] {
		return p.left.first
	}
	return p.right.first
}

// shortened: r without the edges that end at v. If none is left, their side still hangs on the other run.
func (s *search) shortened(r, other run, v int) run {
	for r.first != none && s.comesTo(s.way[r.first]) == v {
		r.first = s.ref[r.first]
	}
	if r.first == none && r.last != none {
		s.ref[r.last] = other.last
		s.side[r.last] = -1
		return emptyRun()
	}
	return r
}
