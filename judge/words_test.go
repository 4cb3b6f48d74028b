package judge

import (
	"math/rand"
	"slices"
	"testing"

	"tracery/api"
)

// A spot is the point (x/d, y/d), d above 0, of small whole numbers.
type spot struct{ x, y, d int }

func spotOf(p api.Point) spot { return spot{p.X, p.Y, 1} }

func (s spot) is(t spot) bool { return s.x*t.d == t.x*s.d && s.y*t.d == t.y*s.d }

// common works out by fractions what the segments ab and cd have in common: how
// many points (2 stands for more than one), and if just one, which.
func common(a, b, c, d api.Point) (int, spot) {
	ux, uy, vx, vy, wx, wy := b.X-a.X, b.Y-a.Y, d.X-c.X, d.Y-c.Y, c.X-a.X, c.Y-a.Y
	det, s, u := ux*vy-uy*vx, wx*vy-wy*vx, wx*uy-wy*ux
	if det < 0 {
		det, s, u = -det, -s, -u
	}
	if det > 0 {
		if s < 0 || s > det || u < 0 || u > det {
			return 0, spot{}
		}
		return 1, spot{a.X*det + ux*s, a.Y*det + uy*s, det}
	}
	return commonOfEnds(a, b, c, d)
}

// commonOfEnds: of segments in one direction, or without length: what ends they have in common.
func commonOfEnds(a, b, c, d api.Point) (int, spot) {
	n, at := 0, api.Point{}
	for _, p := range []api.Point{a, b, c, d} {
		if !lies(a, b, p) || !lies(c, d, p) {
			continue
		}
		if n == 1 && p != at {
			return 2, spot{}
		}
		n, at = 1, p
	}
	return n, spotOf(at)
}

// lies: whether p is on the segment ab: from p both ends are seen in opposite directions, or one of them is there.
func lies(a, b, p api.Point) bool {
	ax, ay, bx, by := a.X-p.X, a.Y-p.Y, b.X-p.X, b.Y-p.Y
	return ax*by == ay*bx && ax*bx+ay*by <= 0
}

// isSimple by geom's definition, segment by segment.
func isSimple(ps []api.Point) bool {
	last := len(ps) - 1
	for i := range last {
		if ps[i] == ps[i+1] {
			return false
		}
		for k := i + 1; k < last; k++ {
			n, at := common(ps[i], ps[i+1], ps[k], ps[k+1])
			next := k == i+1 && n == 1 && at.is(spotOf(ps[k]))
			round := i == 0 && k == last-1 && last >= 3 && ps[0] == ps[last] && n == 1 && at.is(spotOf(ps[0]))
			if k == i+1 && !next || k > i+1 && n != 0 && !round {
				return false
			}
		}
	}
	return true
}

// crosses: whether two lines have a common point beside the points of nodes that are ends of both.
func crosses(g api.Net, p api.Plot, e, f int) bool {
	mine := func(at spot) bool {
		for v := range g.N {
			if slices.Contains(g.Edges[e][:], v) && slices.Contains(g.Edges[f][:], v) && at.is(spotOf(p.At[v])) {
				return true
			}
		}
		return false
	}
	a, b := p.Lines[e], p.Lines[f]
	for i := 1; i < len(a); i++ {
		for k := 1; k < len(b); k++ {
			if n, at := common(a[i-1], a[i], b[k-1], b[k]); n == 2 || n == 1 && !mine(at) {
				return true
			}
		}
	}
	return false
}

// runsOver: whether the point is on the line.
func runsOver(line []api.Point, at api.Point) bool {
	for i := 1; i < len(line); i++ {
		if lies(line[i-1], line[i], at) {
			return true
		}
	}
	return false
}

// unlike: the flaws 1 to 6 by the chapter's table, each asked for itself.
func unlike(g api.Net, p api.Plot) []api.Flaw {
	may := func(x api.Point) bool { return x.X >= -edge && x.X <= edge && x.Y >= -edge && x.Y <= edge }
	if len(p.At) != g.N || len(p.Lines) != len(g.Edges) {
		return flaws(1, 0, 0)
	}
	var all []api.Flaw
	for e, l := range p.Lines {
		if len(l) < 2 || len(l) > 4096 || !slices.Equal(l, slices.DeleteFunc(slices.Clone(l), func(x api.Point) bool { return !may(x) })) {
			all = append(all, api.Flaw{Code: 3, A: e})
			continue
		}
		if l[0] != p.At[g.Edges[e][0]] || l[len(l)-1] != p.At[g.Edges[e][1]] {
			all = append(all, api.Flaw{Code: 5, A: e})
		}
		if !isSimple(l) {
			all = append(all, api.Flaw{Code: 6, A: e})
		}
	}
	for u := range g.N {
		if !may(p.At[u]) {
			all = append(all, api.Flaw{Code: 2, A: u})
		}
		for v := range u {
			if p.At[u] == p.At[v] {
				all = append(all, api.Flaw{Code: 4, A: v, B: u})
			}
		}
	}
	return all
}

// byWords: the flaws by the chapter's table.
func byWords(g api.Net, p api.Plot) []api.Flaw {
	all := unlike(g, p)
	has := func(codes ...int) bool {
		return slices.ContainsFunc(all, func(f api.Flaw) bool { return slices.Contains(codes, f.Code) })
	}
	if has(1, 2, 3) {
		all = slices.DeleteFunc(all, func(f api.Flaw) bool { return f.Code > 3 })
	} else if !has(5, 6) {
		for e, ends := range g.Edges {
			for v, at := range p.At {
				if !slices.Contains(ends[:], v) && runsOver(p.Lines[e], at) {
					all = append(all, api.Flaw{Code: 7, A: e, B: v})
				}
			}
			for f := range e {
				if crosses(g, p, e, f) {
					all = append(all, api.Flaw{Code: 8, A: f, B: e})
				}
			}
		}
	}
	slices.SortFunc(all, byOrder)
	return all
}

// TestWords: so that byWords itself is sound, it is held against what is known.
func TestWords(t *testing.T) {
	g, at, direct := example()
	if got := byWords(g, plot(at, line(0, 0, 2, 0), direct)); !slices.Equal(got, flaws(7, 0, 2, 8, 0, 1)) {
		t.Errorf("the example: %v", got)
	}
	if n, at := common(pt(0, 0), pt(3, 1), pt(0, 1), pt(3, 0)); n != 1 || !at.is(spot{3, 1, 2}) {
		t.Errorf("a crossing: %d, %v", n, at)
	}
	if n, _ := common(pt(0, 0), pt(2, 0), pt(1, 0), pt(3, 0)); n != 2 {
		t.Errorf("over each other: %d", n)
	}
	if n, at := common(pt(0, 0), pt(2, 0), pt(2, 0), pt(3, 0)); n != 1 || !at.is(spot{4, 0, 2}) {
		t.Errorf("end to end: %d, %v", n, at)
	}
}

// A draw tells how plots are drawn by chance.
type draw struct {
	nodes, edges, bends, wide int
	ill                       int // one of so many lines is wrong, or none if it is 0
}

// spread are points, mostly of different places.
func spread(r *rand.Rand, n, wide int) []api.Point {
	ps := make([]api.Point, n)
	for i := range ps {
		ps[i] = pt(r.Intn(wide), r.Intn(wide))
		if slices.Contains(ps[:i], ps[i]) {
			ps[i] = pt(r.Intn(wide), r.Intn(wide))
		}
	}
	return ps
}

// drawn is a net with a plot of it.
func drawn(r *rand.Rand, d draw) (api.Net, api.Plot) {
	g := api.Net{N: 1 + r.Intn(d.nodes)}
	p := api.Plot{At: spread(r, g.N, d.wide)}
	for range r.Intn(d.edges + 1) {
		u, v := r.Intn(g.N), r.Intn(g.N)
		bends := spread(r, r.Intn(d.bends+1), d.wide)
		if u == v {
			bends = append(bends, spread(r, 2, d.wide)...)
		}
		l := slices.Concat([]api.Point{p.At[u]}, bends, []api.Point{p.At[v]})
		if d.ill > 0 && r.Intn(d.ill) == 0 {
			l = spoilt(r, l)
		}
		g.Edges = append(g.Edges, [2]int{u, v})
		p.Lines = append(p.Lines, l)
	}
	if d.ill > 0 && r.Intn(4*d.ill) == 0 {
		p.At[r.Intn(g.N)] = beyond()[r.Intn(len(beyond()))]
	}
	if d.ill > 0 && r.Intn(8*d.ill) == 0 {
		p.Lines = append(p.Lines, nil)
	}
	return g, p
}

// spoilt is a line that is mostly no line of its edge.
func spoilt(r *rand.Rand, l []api.Point) []api.Point {
	switch r.Intn(6) {
	case 0:
		return l[:r.Intn(2)]
	case 1:
		return append(l[:1:1], beyond()[r.Intn(len(beyond()))])
	case 2:
		return l[:len(l)-1]
	case 3:
		return l[1:]
	case 4:
		return append(l[:1:1], l...)
	}
	slices.Reverse(l)
	return l
}

// checkByWords holds Check against the table, and answers the flaws.
func checkByWords(t *testing.T, g api.Net, p api.Plot) []api.Flaw {
	t.Helper()
	want := byWords(g, p)
	got, err := Check(g, p)
	if err != api.OK || !slices.Equal(got, want) {
		t.Fatalf("P11.1: %v, %v: %v, %v, want %v", g, p, got, err, want)
	}
	checkOthers(t, row{"drawn", g, p, want})
	return got
}

func TestCheckMany(t *testing.T) {
	r := rand.New(rand.NewSource(111))
	seen := [9]int{}
	for _, d := range []draw{
		{5, 4, 0, 6, 0}, {5, 5, 1, 9, 0}, {6, 5, 3, 12, 0}, {3, 5, 2, 9, 0}, {1, 4, 2, 9, 0},
		{5, 4, 2, 4, 0}, {5, 5, 2, 9, 8}, {6, 4, 3, 6, 3}, {9, 3, 1, 5, 0}, {5, 5, 0, 40, 20},
	} {
		fine := 0
		for range 4000 {
			g, p := drawn(r, d)
			list := checkByWords(t, g, p)
			if len(list) == 0 && len(g.Edges) > 1 {
				fine++
			}
			for _, f := range list {
				seen[f.Code]++
			}
		}
		if fine < 20 {
			t.Errorf("of %v only %d are fine", d, fine)
		}
	}
	if slices.Min(seen[1:]) < 100 {
		t.Errorf("the plots are ill chosen: %v flaws of each code", seen)
	}
}

// goesOn: whether the line is still simple with one point more.
func goesOn(l []api.Point, next api.Point) bool {
	for i := 1; i < len(l); i++ {
		n, _ := common(l[i-1], l[i], l[len(l)-1], next)
		if i < len(l)-1 && n > 0 || n > 1 {
			return false
		}
	}
	return next != l[len(l)-1]
}

// strolled is a simple line of short steps in all directions.
func strolled(r *rand.Rand, from api.Point, steps, wide int) []api.Point {
	l := []api.Point{from}
	for range steps {
		at := l[len(l)-1]
		next := pt(at.X+r.Intn(7)-3, at.Y+r.Intn(7)-3)
		if next.X >= 0 && next.Y >= 0 && next.X < wide && next.Y < wide && goesOn(l, next) {
			l = append(l, next)
		}
	}
	return l
}

// TestCheckLong: lines of many points, which wind round each other.
func TestCheckLong(t *testing.T) {
	r := rand.New(rand.NewSource(112))
	fine, long, seen := 0, 0, [9]int{}
	for range 1500 {
		wide := 15 + r.Intn(60)
		g, p := of(3), api.Plot{At: spread(r, 3, wide)}
		for range 2 + r.Intn(2) {
			u := r.Intn(g.N)
			l := strolled(r, p.At[u], 5+r.Intn(100), wide)
			g.Edges = append(g.Edges, [2]int{u, g.N})
			g.N++
			p.At, p.Lines = append(p.At, l[len(l)-1]), append(p.Lines, l)
			if len(l) > 2*short {
				long++
			}
		}
		list := checkByWords(t, g, p)
		if len(list) == 0 {
			fine++
		}
		for _, f := range list {
			seen[f.Code]++
		}
	}
	if fine < 50 || long < 500 || seen[7] < 50 || seen[8] < 50 {
		t.Errorf("the lines are ill chosen: %d fine, %d long, %v", fine, long, seen)
	}
}
