package sepa

import (
	"math/rand"
	"slices"
	"testing"

	"tracery/api"
)

// sight is a net of which it is often asked whether it is connected without some nodes.
type sight struct {
	g     api.Net
	near  [][]int // of each node the other ends of its edges
	found []int   // of each node the last time that it was found
	times int
}

func look(g api.Net) *sight {
	s := &sight{g: g, near: make([][]int, g.N), found: make([]int, g.N)}
	for _, ends := range g.Edges {
		s.near[ends[0]] = append(s.near[ends[0]], ends[1])
		s.near[ends[1]] = append(s.near[ends[1]], ends[0])
	}
	return s
}

// connected tells whether the net is, without these nodes (no two the same).
func (s *sight) connected(out ...int) bool {
	s.times++
	for _, v := range out {
		s.found[v] = s.times
	}
	var stack []int
	left := s.g.N - len(out)
	reach := func(v int) {
		if s.found[v] != s.times {
			s.found[v] = s.times
			stack = append(stack, v)
			left--
		}
	}
	for v := 0; v < s.g.N && len(stack) == 0; v++ {
		reach(v)
	}
	for len(stack) > 0 {
		v := stack[len(stack)-1]
		stack = stack[:len(stack)-1]
		for _, w := range s.near[v] {
			reach(w)
		}
	}
	return left == 0
}

// stays tells whether the net is connected still, whichever set of that many nodes is taken out.
func (s *sight) stays(size int, out ...int) bool {
	if len(out) == size {
		return s.connected(out...)
	}
	first := 0
	if len(out) > 0 {
		first = out[len(out)-1] + 1
	}
	for v := first; v < s.g.N; v++ {
		if !s.stays(size, append(slices.Clone(out), v)...) {
			return false
		}
	}
	return true
}

// connectedFold tells whether the net is connected k-fold.
func (s *sight) connectedFold(k int) bool {
	for size := range k {
		if !s.stays(size) {
			return false
		}
	}
	return s.g.N > k
}

func (s *sight) level() int {
	level := 0
	for k := 1; k <= 3; k++ {
		if s.connectedFold(k) {
			level = k
		}
	}
	return level
}

// pairs are those without which the net is not connected.
func (s *sight) pairs() [][2]int {
	var list [][2]int
	for u := range s.g.N {
		for v := u + 1; v < s.g.N; v++ {
			if !s.connected(u, v) {
				list = append(list, [2]int{u, v})
			}
		}
	}
	return list
}

// biconnected is that of block's chapter: of a net without loops a cut node is one without which it is not connected.
func (s *sight) biconnected() bool {
	return s.g.N >= 2 && !slices.ContainsFunc(s.g.Edges, isLoop) && s.stays(0) && s.stays(1)
}

func isLoop(ends [2]int) bool { return ends[0] == ends[1] }

// byPaths goes along all paths of a small net that go through neither u nor v, and tells of each two edges whether one joins them.
// No node stands in the midst of a path twice; its ends may be one node.
func byPaths(g api.Net, u, v int) [][]bool {
	tied := make([][]bool, len(g.Edges))
	on := make([]bool, g.N)
	on[u], on[v] = true, true
	var goOn func(e, last, at int)
	goOn = func(e, last, at int) {
		if on[at] {
			return
		}
		on[at] = true
		for f, ends := range g.Edges {
			if f == last || f == e || isLoop(ends) || ends[0] != at && ends[1] != at {
				continue
			}
			tied[e][f] = true
			goOn(e, f, ends[0]+ends[1]-at)
		}
		on[at] = false
	}
	for e, ends := range g.Edges {
		tied[e] = make([]bool, len(g.Edges))
		tied[e][e] = true
		if !isLoop(ends) {
			goOn(e, e, ends[0])
			goOn(e, e, ends[1])
		}
	}
	return tied
}

// classesOf puts edges together that have a node in common which is neither u nor v, again and again, till nothing changes.
func classesOf(g api.Net, u, v int) [][]int {
	above := make([]int, len(g.Edges))
	top := func(e int) int {
		for above[e] != e {
			above[e] = above[above[e]]
			e = above[e]
		}
		return e
	}
	first := slices.Repeat(nums(-1), g.N)
	for e, ends := range g.Edges {
		above[e] = e
		for _, w := range ends {
			switch {
			case w == u || w == v || isLoop(ends):
			case first[w] < 0:
				first[w] = e
			default:
				a, b := top(e), top(first[w])
				above[max(a, b)] = min(a, b) // so that the least edge of a class is its top
			}
		}
	}
	place := make([]int, len(g.Edges))
	var list [][]int
	for e := range g.Edges {
		if top(e) == e {
			place[e] = len(list)
			list = append(list, nil)
		}
		list[place[top(e)]] = append(list[place[top(e)]], e)
	}
	return list
}

// halves tells whether some classes and the others have two edges each at least: each number of edges that some classes have is tried.
func halves(m int, classes [][]int) bool {
	can := make([]bool, m+1)
	can[0] = true
	for _, class := range classes {
		for sum := m; sum >= len(class); sum-- {
			can[sum] = can[sum] || can[sum-len(class)]
		}
	}
	for sum := 2; sum <= m-2; sum++ {
		if can[sum] {
			return true
		}
	}
	return false
}

// bySets is halves by all sets of classes, one by one.
func bySets(m int, classes [][]int) bool {
	for set := range 1 << len(classes) {
		size := 0
		for i, class := range classes {
			if set>>i&1 == 1 {
				size += len(class)
			}
		}
		if size >= 2 && m-size >= 2 {
			return true
		}
	}
	return false
}

// splitsOf are the split pairs of g by the words.
func splitsOf(g api.Net) [][2]int {
	var list [][2]int
	for u := range g.N {
		for v := u + 1; v < g.N; v++ {
			if halves(len(g.Edges), classesOf(g, u, v)) {
				list = append(list, [2]int{u, v})
			}
		}
	}
	return list
}

// checkLevel: Level and Pairs against the words.
func checkLevel(t *testing.T, g api.Net) int {
	t.Helper()
	s := look(g)
	want := s.level()
	if level, err := Level(g); level != want || err != api.OK {
		t.Fatalf("P15.1: Level(%v): %d, %v, not %d", g, level, err, want)
	}
	pairs, err := Pairs(g)
	switch {
	case want < 2 && (err != api.ErrBicon || len(pairs) != 0):
		t.Fatalf("P15.2: Pairs(%v), of the level %d: %v, %v", g, want, pairs, err)
	case want >= 2 && (err != api.OK || !slices.Equal(pairs, s.pairs())):
		t.Fatalf("P15.2: Pairs(%v): %v, %v, not %v", g, pairs, err, s.pairs())
	}
	return want
}

// checkClasses: Classes of any two nodes, either way about, against the words.
func checkClasses(t *testing.T, g api.Net) {
	t.Helper()
	for u := range g.N {
		for v := range g.N {
			classes, err := Classes(g, u, v)
			switch {
			case u == v && (err != api.ErrBounds || len(classes) != 0):
				t.Fatalf("P15.3: Classes(%v, %d, %d): %v, %v", g, u, v, classes, err)
			case u != v && (err != api.OK || !sameLists(classes, classesOf(g, u, v))):
				t.Fatalf("P15.3: Classes(%v, %d, %d): %v, %v, not %v", g, u, v, classes, err, classesOf(g, u, v))
			}
		}
	}
}

// checkSplits: Splits against the words; and whether there are split pairs.
func checkSplits(t *testing.T, g api.Net) bool {
	t.Helper()
	splits, err := Splits(g)
	if !look(g).biconnected() {
		if err != api.ErrBicon || len(splits) != 0 {
			t.Fatalf("P15.4: Splits(%v), which is not biconnected: %v, %v", g, splits, err)
		}
		return false
	}
	if want := splitsOf(g); err != api.OK || !slices.Equal(splits, want) {
		t.Fatalf("P15.4: Splits(%v): %v, %v, not %v", g, splits, err, want)
	}
	return len(splits) > 0
}

func check(t *testing.T, g api.Net) {
	t.Helper()
	checkLevel(t, g)
	checkClasses(t, g)
	checkSplits(t, g)
}

// TestClassesByPaths holds Classes against all paths; and these tell classes indeed: who is joined with a third one is joined.
func TestClassesByPaths(t *testing.T) {
	r := rand.New(rand.NewSource(151))
	for i := range 1500 {
		g := some(r, 2+i%6, 1+i%11)
		if i%3 == 0 {
			g = eared(t, r, 1+r.Intn(2))
		}
		for u := range g.N {
			for v := range g.N {
				if u == v {
					continue
				}
				checkByPaths(t, g, u, v)
			}
		}
	}
}

func checkByPaths(t *testing.T, g api.Net, u, v int) {
	t.Helper()
	tied := byPaths(g, u, v)
	classes, err := Classes(g, u, v)
	if err != api.OK {
		t.Fatalf("P15.3: Classes(%v, %d, %d): %v", g, u, v, err)
	}
	var all []int
	for i, class := range classes {
		if len(class) == 0 || !slices.IsSorted(class) || i > 0 && classes[i-1][0] >= class[0] {
			t.Fatalf("P15.3: Classes(%v, %d, %d): %v", g, u, v, classes)
		}
		for e := range g.Edges {
			if tied[class[0]][e] != slices.Contains(class, e) {
				t.Fatalf("P15.3: Classes(%v, %d, %d): %v: the edges %d, %d", g, u, v, classes, class[0], e)
			}
		}
		for _, e := range class {
			if !slices.Equal(tied[e], tied[class[0]]) {
				t.Fatalf("the words tell no classes of %d and %d in %v", u, v, g)
			}
		}
		all = append(all, class...)
	}
	slices.Sort(all)
	if len(all) != len(g.Edges) || len(slices.Compact(all)) != len(g.Edges) {
		t.Fatalf("P15.3: Classes(%v, %d, %d): %v", g, u, v, classes)
	}
	if halves(len(g.Edges), classes) != bySets(len(g.Edges), classes) {
		t.Fatalf("the two tests of a split pair differ: %v", classes)
	}
}

// TestAllSimple: each simple net of up to 6 nodes.
func TestAllSimple(t *testing.T) {
	for n := range 7 {
		var all [][2]int
		for u := range n {
			for v := u + 1; v < n; v++ {
				all = append(all, [2]int{u, v})
			}
		}
		levels := [4]int{}
		for set := range 1 << len(all) {
			g := api.Net{N: n}
			for e, ends := range all {
				if set>>e&1 == 1 {
					g.Edges = append(g.Edges, ends)
				}
			}
			levels[checkLevel(t, g)]++
			checkSplits(t, g)
			if n < 6 {
				checkClasses(t, g)
			}
		}
		// how many there are with numbered nodes is known: those that are connected, biconnected, threefold
		known := [][3]int{{0, 0, 0}, {0, 0, 0}, {1, 0, 0}, {4, 1, 0}, {38, 10, 1}, {728, 238, 26}, {26704, 11368, 1768}}[n]
		if got := [3]int{levels[1] + levels[2] + levels[3], levels[2] + levels[3], levels[3]}; got != known {
			t.Errorf("P15.1: nets of %d nodes of the levels 1, 2, 3 and above: %v, not %v", n, got, known)
		}
	}
}

// TestAllWithLoops: each net of up to 4 nodes with some loops and up to two edges between each two nodes.
func TestAllWithLoops(t *testing.T) {
	for n := 1; n <= 4; n++ {
		var kinds [][2]int
		for u := range n {
			for v := u; v < n; v++ {
				kinds = append(kinds, [2]int{u, v})
			}
		}
		var lay func(g api.Net, rest [][2]int)
		lay = func(g api.Net, rest [][2]int) {
			if len(rest) == 0 {
				check(t, g)
				return
			}
			most, ends := 2, rest[0]
			if isLoop(ends) {
				most = 1
			}
			for range most + 1 {
				lay(g, rest[1:])
				g = with(g, ends[0], ends[1])
			}
		}
		lay(of(n), kinds)
	}
}

// TestMany: nets of all kinds of edges, many of which do not hold together, and such as hold together twofold.
func TestMany(t *testing.T) {
	r := rand.New(rand.NewSource(152))
	for i := range 2500 {
		check(t, some(r, 2+i%9, 2+i%21))
	}
	for i := range 1500 {
		g := eared(t, r, i%8)
		check(t, g)
		check(t, more(r, g, r.Intn(4)))
	}
}

// TestMiddle: nets of some dozens of nodes.
func TestMiddle(t *testing.T) {
	r := rand.New(rand.NewSource(153))
	for i := range 40 {
		check(t, eared(t, r, 5+i%25))
		check(t, some(r, 40, 90))
		check(t, more(r, of(30), 60+i*2))
	}
}

// TestKinds: well-known nets, each with itself and others put together at two nodes, at one, by a bridge, and side by side.
func TestKinds(t *testing.T) {
	r := rand.New(rand.NewSource(154))
	list := kinds(t)
	split, not := 0, 0
	for _, g := range list {
		check(t, g)
		if checkSplits(t, shuffled(t, r, g)) {
			split++
		} else {
			not++
		}
		check(t, wider(g, 1))
		for range 6 {
			other, third := list[r.Intn(len(list))], list[r.Intn(len(list))]
			both := atTwo(t, r, g, other)
			check(t, shuffled(t, r, hung(t, r, g, other)))
			if len(both.Edges) > 0 {
				check(t, shuffled(t, r, both))
				both = atTwo(t, r, both, third)
			}
			checkSplits(t, both)
		}
	}
	if split < 10 || not < 10 {
		t.Errorf("too few nets of a sort: %d with split pairs, %d without", split, not)
	}
}

// TestLoopsAndParallels change no level and no pair that separates.
func TestLoopsAndParallels(t *testing.T) {
	r := rand.New(rand.NewSource(155))
	list := kinds(t)
	for range 300 {
		list = append(list, some(r, 8, 18), eared(t, r, r.Intn(6)))
	}
	for _, g := range list {
		if g.N == 0 {
			continue
		}
		thick := wider(g, 0)
		for range 1 + r.Intn(6) {
			if v := r.Intn(g.N); len(g.Edges) == 0 || r.Intn(2) == 0 {
				thick = with(thick, v, v)
			} else {
				ends := g.Edges[r.Intn(len(g.Edges))]
				thick = with(thick, ends[1], ends[0])
			}
		}
		a, _ := Level(g)
		b, err := Level(thick)
		if a != b || err != api.OK {
			t.Fatalf("P15.1: Level(%v): %d; of %v: %d, %v", g, a, thick, b, err)
		}
		p, e := Pairs(g)
		q, f := Pairs(thick)
		if !slices.Equal(p, q) || e != f {
			t.Fatalf("P15.2: Pairs(%v): %v, %v; of %v: %v, %v", g, p, e, thick, q, f)
		}
	}
}
