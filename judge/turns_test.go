package judge

import (
	"cmp"
	"math"
	"math/rand"
	"slices"
	"testing"

	"tracery/api"
	"tracery/rot"
	"tracery/walk"
)

// equal tells whether lists are the same, a nil one as an empty one.
func equal(a, b [][]int) bool {
	return slices.EqualFunc(a, b, func(x, y []int) bool { return slices.Equal(x, y) })
}

// deep is a copy of all lists.
func deep(lists [][]int) [][]int {
	var all [][]int
	for _, list := range lists {
		all = append(all, slices.Clone(list))
	}
	return all
}

// roundOf is a star: node 0 at the origin, an edge to each of the points.
func roundOf(xy ...int) (api.Net, api.Plot) {
	g, p := of(1), plot(line(0, 0))
	for i, at := range line(xy...) {
		g.N++
		g.Edges = append(g.Edges, [2]int{0, i + 1})
		p.At, p.Lines = append(p.At, at), append(p.Lines, []api.Point{pt(0, 0), at})
	}
	return g, p
}

func TestTurns(t *testing.T) {
	g, at, direct := example()
	eight, round := roundOf(1, 1, -1, -1, 0, 1, -1, 0, 1, 0, -1, 1, 0, -1, 1, -1)
	left, nearly := roundOf(-1, 1000, 1, 1000, 1, -1000, -1, -1000, 0, -1, 0, 1)
	close, hardly := roundOf(edge, edge-1, edge-1, edge-2, edge-2, edge-1, 1, 1, edge-1, edge)
	for _, row := range []struct {
		name string
		g    api.Net
		p    api.Plot
		want api.Rot
	}{
		{"the example", g, plot(at, line(0, 0, 1, 1, 2, 0), direct), api.Rot{{0}, {1, 2}, {3}}},
		{"no node", of(0), api.Plot{}, nil},
		{"one node", of(1), plot(line(3, 3)), api.Rot{nil}},
		{"nodes alone", of(3), plot(line(3, 3, 4, 4, 5, 5)), api.Rot{nil, nil, nil}},
		{"an edge beside a node", of(3, 2, 1), plot(line(0, 1, 0, 0, 3, 3), line(3, 3, 0, 0)), api.Rot{nil, {1}, {0}}},
		{"the eight main directions", eight, round, api.Rot{{0, 8, 14, 12, 2, 6, 10, 4}, {1}, {3}, {5}, {7}, {9}, {11}, {13}, {15}}},
		{"beside up and down", left, nearly, api.Rot{{0, 10, 2, 4, 8, 6}, {1}, {3}, {5}, {7}, {9}, {11}}},
		{"hardly different", close, hardly, api.Rot{{0, 2, 4, 8, 6}, {1}, {3}, {5}, {7}, {9}}},
		{"a loop to the right", of(1, 0, 0), plot(line(0, 0), line(0, 0, 1, 1, 2, 0, 0, 0)), api.Rot{{0, 1}}},
		{"loops, one within the other", of(1, 0, 0, 0, 0), plot(line(0, 0), line(0, 0, 9, 9, 9, -9, 0, 0), line(0, 0, 3, -1, 3, 1, 0, 0)), api.Rot{{0, 3, 2, 1}}},
		{"loops side by side", of(1, 0, 0, 0, 0), plot(line(0, 0), line(0, 0, 1, 3, 3, 1, 0, 0), line(0, 0, -3, 1, -1, 3, 0, 0)), api.Rot{{0, 1, 2, 3}}},
		{"parallel edges", of(2, 0, 1, 1, 0, 0, 1), plot(line(0, 0, 4, 0), line(0, 0, 4, 0), line(4, 0, 2, 2, 0, 0), line(0, 0, 2, -2, 4, 0)), api.Rot{{0, 4, 3}, {1, 2, 5}}},
		{"by the first segment, not by the end", of(4, 0, 1, 0, 2, 0, 3), plot(line(0, 0, 5, 0, -5, 0, 0, 4), line(0, 0, -1, 1, -1, 6, 5, 6, 5, 0), line(0, 0, 1, -1, 1, -2, -5, -2, -5, 0), line(0, 0, 0, 4)), api.Rot{{0, 4, 2}, {1}, {3}, {5}}},
		{"by the last segment of a second half", of(4, 1, 0, 2, 0, 3, 0), plot(line(0, 0, 5, 0, -5, 0, 0, 4), line(5, 0, 5, 6, -1, 6, -1, 1, 0, 0), line(-5, 0, -5, -2, 1, -2, 1, -1, 0, 0), line(0, 4, 0, 0)), api.Rot{{1, 5, 3}, {0}, {2}, {4}}},
	} {
		if got, err := Turns(row.g, row.p); err != api.OK || !equal(got, row.want) {
			t.Errorf("P11.2: %s: %v, %v, want %v", row.name, got, err, row.want)
		}
	}
}

// TestOneDirection: half-edges that leave a point in one direction, of two edges and of a loop.
func TestOneDirection(t *testing.T) {
	for _, row := range []row{
		{"nearer and farther", of(3, 0, 1, 0, 2), plot(line(0, 0, 2, 2, 3, 3), line(0, 0, 2, 2), line(0, 0, 3, 3)), nil},
		{"two first halves", of(3, 0, 1, 0, 2), plot(line(0, 0, 3, 0, 0, 3), line(0, 0, 1, 1, 3, 0), line(0, 0, 2, 2, 0, 3)), nil},
		{"two second halves", of(3, 1, 0, 2, 0), plot(line(0, 0, 3, 0, 0, 3), line(3, 0, 1, 1, 0, 0), line(0, 3, 2, 2, 0, 0)), nil},
		{"a first and a second half", of(3, 0, 1, 2, 0), plot(line(0, 0, 3, 0, 0, 3), line(0, 0, 1, 1, 3, 0), line(0, 3, 1, 1, 0, 0)), nil},
		{"a loop's halves", of(1, 0, 0), plot(line(0, 0), line(0, 0, 1, 1, 3, 0, 2, 2, 0, 0)), nil},
		{"different nodes", of(4, 0, 2, 1, 3), plot(line(0, 0, 0, 0, 2, 2, 3, 3), line(0, 0, 2, 2), line(0, 0, 3, 3)), nil},
	} {
		turns, err := Turns(row.g, row.p)
		ok, other := Fits(row.g, rising(row.g), row.p)
		if err != api.ErrShape || len(turns) > 0 || ok || other != api.OK {
			t.Errorf("P11.2: %s: %v, %v; %v, %v", row.name, turns, err, ok, other)
		}
	}
}

// angle at which the half-edge leaves, clockwise from straight up, of small numbers.
func angle(g api.Net, p api.Plot, h int) float64 {
	l, o := slices.Clone(p.Lines[h/2]), p.At[g.Edges[h/2][h%2]]
	if h%2 == 1 {
		slices.Reverse(l)
	}
	w := math.Atan2(float64(l[1].X-o.X), float64(l[1].Y-o.Y))
	if w < 0 {
		w += 2 * math.Pi
	}
	return w
}

// byAngles is the rotation of a plot without flaws.
func byAngles(g api.Net, p api.Plot) api.Rot {
	r := rising(g)
	for v, list := range r {
		slices.SortFunc(list, func(h, k int) int { return cmp.Compare(angle(g, p, h), angle(g, p, k)) })
		if len(list) > 0 {
			i := slices.Index(list, slices.Min(list))
			r[v] = slices.Concat(list[i:], list[:i])
		}
	}
	return r
}

// finePlots are nets with plots without flaws, of all kinds of edges.
func finePlots(seed int64, each int) []row {
	r := rand.New(rand.NewSource(seed))
	var rows []row
	for _, d := range []draw{{6, 6, 2, 30, 0}, {4, 6, 3, 30, 0}, {2, 4, 2, 20, 0}, {1, 4, 1, 20, 0}, {9, 6, 0, 12, 0}} {
		for n := 0; n < each; {
			g, p := drawn(r, d)
			if len(g.Edges) > 1 && len(byWords(g, p)) == 0 {
				rows = append(rows, row{"drawn", g, p, nil})
				n++
			}
		}
	}
	return rows
}

func TestTurnsMany(t *testing.T) {
	several := 0
	for _, row := range finePlots(113, 400) {
		got, err := Turns(row.g, row.p)
		if err != api.OK || !equal(got, byAngles(row.g, row.p)) {
			t.Fatalf("P11.2: %v, %v: %v, %v, want %v", row.g, row.p, got, err, byAngles(row.g, row.p))
		}
		if slices.ContainsFunc(got, func(list []int) bool { return len(list) > 2 }) {
			several++
		}
		if err := rot.May(row.g, got); err != api.OK {
			t.Fatalf("P11.2: no rotation: %v", got)
		}
		_, parts, _ := walk.Parts(row.g)
		if genus, err := rot.Genus(row.g, got); parts == 1 && (genus != 0 || err != api.OK) {
			t.Fatalf("what follows: %v, %v: genus %d", row.g, row.p, genus)
		}
	}
	if several < 400 {
		t.Errorf("the plots are ill chosen: %d have a node of three half-edges", several)
	}
}

// changed is the plot with each point put elsewhere.
func changed(p api.Plot, to func(api.Point) api.Point) api.Plot {
	q := api.Plot{}
	for _, at := range p.At {
		q.At = append(q.At, to(at))
	}
	for _, l := range p.Lines {
		var m []api.Point
		for _, at := range l {
			m = append(m, to(at))
		}
		q.Lines = append(q.Lines, m)
	}
	return q
}

// TestMoved: moving all points, turning them by a quarter and making all greater keeps the rotation; seen in a mirror it is the mirror's.
func TestMoved(t *testing.T) {
	for _, row := range finePlots(114, 60) {
		turns, _ := Turns(row.g, row.p)
		mirror, _ := rot.Mirror(row.g, turns)
		for i, to := range []func(api.Point) api.Point{
			func(a api.Point) api.Point { return pt(a.X-edge, a.Y+edge-30) },
			func(a api.Point) api.Point { return pt(-a.Y, a.X) },
			func(a api.Point) api.Point { return pt(-a.X, -a.Y) },
			func(a api.Point) api.Point { return pt(a.X*30000, a.Y*30000) },
			func(a api.Point) api.Point { return pt(a.X+a.Y, a.Y) },
			func(a api.Point) api.Point { return pt(-a.X, a.Y) },
			func(a api.Point) api.Point { return pt(a.Y, a.X) },
		} {
			want := turns
			if i > 4 {
				want = mirror
			}
			if got, err := Turns(row.g, changed(row.p, to)); err != api.OK || !equal(got, want) {
				t.Fatalf("P11.2: %v, %v, changed %d: %v, %v, want %v", row.g, row.p, i, got, err, want)
			}
		}
	}
}

// shuffled is any rotation of g.
func shuffled(r *rand.Rand, g api.Net) api.Rot {
	x := rising(g)
	for _, list := range x {
		r.Shuffle(len(list), func(i, k int) { list[i], list[k] = list[k], list[i] })
	}
	return x
}

// TestFits: as rot.Same tells of Turns.
func TestFits(t *testing.T) {
	r := rand.New(rand.NewSource(115))
	yes, no := 0, 0
	for _, row := range finePlots(116, 200) {
		turns, _ := Turns(row.g, row.p)
		mirror, _ := rot.Mirror(row.g, turns)
		begun := api.Rot(deep(turns))
		for v, list := range begun {
			if len(list) > 0 {
				i := r.Intn(len(list))
				begun[v] = slices.Concat(list[i:], list[:i])
			}
		}
		for _, x := range []api.Rot{turns, begun, mirror, rising(row.g), shuffled(r, row.g)} {
			want, _ := rot.Same(row.g, turns, x)
			if want {
				yes++
			} else {
				no++
			}
			if ok, err := Fits(row.g, x, row.p); ok != want || err != api.OK {
				t.Fatalf("P11.2: Fits: %v, %v, %v: %v, %v", row.g, x, row.p, ok, err)
			}
		}
		if ok, err := Fits(row.g, begun, row.p); !ok || err != api.OK {
			t.Fatalf("P11.2: where lists begin means nothing: %v, %v", begun, ok)
		}
	}
	if yes < 500 || no < 500 {
		t.Errorf("the rotations are ill chosen: %d fit, %d do not", yes, no)
	}
}

// TestFitsErrors: rot.May's, ahead of what is wrong in the plot.
func TestFitsErrors(t *testing.T) {
	g, at, direct := example()
	fine, crossed := plot(at, line(0, 0, 1, 1, 2, 0), direct), plot(at, line(0, 0, 2, 0), direct)
	r := api.Rot{{0}, {1, 2}, {3}}
	for _, row := range []struct {
		name string
		g    api.Net
		r    api.Rot
		p    api.Plot
		ok   bool
		err  api.Errno
	}{
		{"the example", g, r, fine, true, api.OK},
		{"turned", g, api.Rot{{0}, {2, 1}, {3}}, fine, true, api.OK},
		{"flaws", g, r, crossed, false, api.OK},
		{"no plot", g, r, api.Plot{}, false, api.OK},
		{"no rotation", g, nil, fine, false, api.ErrRot},
		{"no rotation, no plot", g, nil, api.Plot{}, false, api.ErrRot},
		{"no rotation, flaws", g, r[:2], crossed, false, api.ErrRot},
		{"one half-edge twice", g, api.Rot{{0}, {1, 1}, {3}}, fine, false, api.ErrRot},
		{"half-edges of other nodes", g, api.Rot{{1}, {0, 2}, {3}}, fine, false, api.ErrRot},
		{"a list too many", g, api.Rot{{0}, {1, 2}, {3}, nil}, fine, false, api.ErrRot},
		{"no net", api.Net{N: -1}, nil, fine, false, api.ErrArg},
		{"no net, no rotation", of(2, 0, 2), r, api.Plot{}, false, api.ErrArg},
		{"no node", of(0), nil, api.Plot{}, true, api.OK},
		{"no node, a list", of(0), api.Rot{nil}, api.Plot{}, false, api.ErrRot},
		{"one node", of(1), api.Rot{{}}, plot(line(1, 1)), true, api.OK},
	} {
		if ok, err := Fits(row.g, row.r, row.p); ok != row.ok || err != row.err {
			t.Errorf("P11.2: Fits, %s: %v, %v", row.name, ok, err)
		}
	}
}
