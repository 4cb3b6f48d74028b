package geom

import (
	"math"
	"math/rand"
	"slices"
	"testing"

	"tracery/api"
)

const edge = api.MaxCoord

func pt(x, y int) api.Point { return api.Point{X: x, Y: y} }

// line is a polyline of the numbers x, y, x, y ...
func line(xy ...int) []api.Point {
	var ps []api.Point
	for i := 0; i+1 < len(xy); i += 2 {
		ps = append(ps, pt(xy[i], xy[i+1]))
	}
	return ps
}

// beyond are points that may not be, each by one coordinate.
func beyond() []api.Point {
	var ps []api.Point
	for _, x := range []int{edge + 1, -edge - 1, math.MaxInt, math.MinInt, math.MinInt + 1, 1 << 32} {
		ps = append(ps, pt(x, 0), pt(0, x))
	}
	return ps
}

// corners are the outermost points that may be.
func corners() []api.Point {
	return line(-edge, -edge, edge, -edge, edge, edge, -edge, edge)
}

// small are random points of a small grid, so that much of what they form falls together.
func small(r *rand.Rand, n, wide int) []api.Point {
	ps := make([]api.Point, n)
	for i := range ps {
		ps[i] = pt(r.Intn(wide), r.Intn(wide))
	}
	return ps
}

func TestMay(t *testing.T) {
	if !May() || !May(nil...) || !May(pt(0, 0)) || !May(corners()...) {
		t.Error("P2.1: points that may be")
	}
	for _, p := range beyond() {
		if May(p) || May(pt(0, 0), p) || May(p, pt(0, 0)) {
			t.Errorf("P2.1: May(%v)", p)
		}
	}
	if !May(make([]api.Point, 4096)...) || May(make([]api.Point, 4097)...) {
		t.Error("P2.1: 4,096 points are the most")
	}
}

func TestOrient(t *testing.T) {
	for _, c := range []struct {
		a, b, c api.Point
		want    int
	}{
		{pt(0, 0), pt(1, 0), pt(1, 1), 1},
		{pt(0, 0), pt(1, 0), pt(1, -1), -1},
		{pt(0, 0), pt(2, 2), pt(1, 1), 0},
		{pt(0, 0), pt(2, 2), pt(5, 5), 0},
		{pt(3, 4), pt(3, 4), pt(9, 1), 0},
		{pt(3, 4), pt(9, 1), pt(3, 4), 0},
		{pt(9, 1), pt(3, 4), pt(3, 4), 0},
		{pt(-edge, -edge), pt(edge, edge), pt(edge, edge-1), -1},
		{pt(-edge, -edge), pt(edge, edge), pt(edge-1, edge), 1},
		{pt(-edge, -edge), pt(edge, edge-1), pt(edge-1, edge-2), -1},
		{pt(-edge, -edge), pt(edge, -edge), pt(edge, edge), 1},
		{pt(-edge, edge), pt(edge, edge), pt(edge, -edge), -1},
	} {
		if n, e := Orient(c.a, c.b, c.c); n != c.want || e != api.OK {
			t.Errorf("P2.1: Orient%v: %d, %v", c, n, e)
		}
	}
}

func TestOrientRefuses(t *testing.T) {
	for _, far := range beyond() {
		for i := range 3 {
			ps := line(0, 0, 1, 0, 1, 1)
			ps[i] = far
			if n, e := Orient(ps[0], ps[1], ps[2]); n != 0 || e != api.ErrArg {
				t.Errorf("P2.1: Orient%v: %d, %v", ps, n, e)
			}
		}
	}
}

// quarter turns a point by a quarter to the left; shift moves it.
func quarter(p api.Point) api.Point { return pt(-p.Y, p.X) }
func shift(p api.Point) api.Point   { return pt(p.X+1000, p.Y-70000) }

func changed(ps []api.Point, f func(api.Point) api.Point) []api.Point {
	var qs []api.Point
	for _, p := range ps {
		qs = append(qs, f(p))
	}
	return qs
}

func TestWhatFollows(t *testing.T) {
	r := rand.New(rand.NewSource(3))
	for range 5000 {
		ps := small(r, 4, 5)
		n, _ := Orient(ps[0], ps[1], ps[2])
		for _, o := range [][3]int{{1, 0, 2}, {0, 2, 1}, {2, 1, 0}} {
			if m, _ := Orient(ps[o[0]], ps[o[1]], ps[o[2]]); m != -n {
				t.Fatalf("P2.1: Orient%v: %d, %d with two of them changed", ps[:3], n, m)
			}
		}
		on, _ := On(ps[0], ps[1], ps[2])
		meet, _ := Meet(ps[0], ps[1], ps[2], ps[3])
		for _, f := range []func(api.Point) api.Point{quarter, shift} {
			qs := changed(ps, f)
			n2, _ := Orient(qs[0], qs[1], qs[2])
			on2, _ := On(qs[0], qs[1], qs[2])
			meet2, _ := Meet(qs[0], qs[1], qs[2], qs[3])
			if n2 != n || on2 != on || meet2 != meet {
				t.Fatalf("P2.1, P2.2: %v, %v: %d %v %d, %d %v %d", ps, qs, n, on, meet, n2, on2, meet2)
			}
		}
		for _, o := range [][4]int{{1, 0, 2, 3}, {0, 1, 3, 2}, {2, 3, 0, 1}, {3, 2, 1, 0}} {
			if m, _ := Meet(ps[o[0]], ps[o[1]], ps[o[2]], ps[o[3]]); m != meet {
				t.Fatalf("P2.2: Meet%v: %d, %d turned about", ps, meet, m)
			}
		}
	}
}

func TestAround(t *testing.T) {
	for _, c := range []struct {
		o    api.Point
		ps   []api.Point
		want []int
	}{
		{pt(0, 0), line(1, 0, 0, 1, -1, 0, 0, -1, 0, 5), []int{1, 4, 0, 3, 2}},
		{pt(7, 7), nil, nil},
		{pt(7, 7), line(7, 6), []int{0}},
		// all eight main directions, told backwards
		{pt(5, 5), line(4, 6, 4, 5, 4, 4, 5, 4, 6, 4, 6, 5, 6, 6, 5, 6), []int{7, 6, 5, 4, 3, 2, 1, 0}},
		// of one direction the nearer first, of one point the lesser number first
		{pt(0, 0), line(6, 3, 2, 1, 4, 2, 2, 1, -2, -1), []int{1, 3, 2, 0, 4}},
		{pt(0, 0), line(0, -2, 0, 2, 0, -1, 0, 1), []int{3, 1, 2, 0}},
		{pt(0, 0), line(-1, 1000, 1, 1000, 1, -1000, -1, -1000, 0, 1, 0, -1), []int{4, 1, 2, 5, 3, 0}},
		// directions that differ as little as may be
		{pt(-edge, -edge), line(edge-1, edge-2, edge, edge-1, edge, edge, 0, 0, edge-1, edge, edge-2, edge-1), []int{5, 4, 3, 2, 1, 0}},
		{pt(edge, edge), line(-edge, -edge, -edge+1, -edge, -edge, -edge+1), []int{1, 0, 2}},
	} {
		if l, e := Around(c.o, c.ps...); !slices.Equal(l, c.want) || e != api.OK {
			t.Errorf("P2.3: Around(%v, %v): %v, %v", c.o, c.ps, l, e)
		}
	}
}

// angle of a direction, clockwise from straight up: the same float for all steps of one direction.
func angle(o, p api.Point) float64 {
	x, y := p.X-o.X, p.Y-o.Y
	a, b := x, y
	for b != 0 {
		a, b = b, a%b
	}
	if a < 0 {
		a = -a
	}
	w := math.Atan2(float64(x/a), float64(y/a))
	if w < 0 {
		w += 2 * math.Pi
	}
	return w
}

func TestAroundByAngles(t *testing.T) {
	r := rand.New(rand.NewSource(4))
	for range 3000 {
		o := pt(r.Intn(9), r.Intn(9))
		ps := slices.DeleteFunc(small(r, 1+r.Intn(12), 9), func(p api.Point) bool { return p == o })
		told := slices.Clone(ps)
		got, e := Around(o, ps...)
		if e != api.OK || len(got) != len(ps) || !slices.Equal(ps, told) {
			t.Fatalf("P2.3: Around(%v, %v): %v, %v", o, told, got, e)
		}
		far := func(p api.Point) int { return (p.X-o.X)*(p.X-o.X) + (p.Y-o.Y)*(p.Y-o.Y) }
		for k := 1; k < len(got); k++ {
			i, j := got[k-1], got[k]
			a, b := angle(o, ps[i]), angle(o, ps[j])
			if a > b || a == b && (far(ps[i]) > far(ps[j]) || far(ps[i]) == far(ps[j]) && i >= j) {
				t.Fatalf("P2.3: Around(%v, %v): %v", o, ps, got)
			}
		}
	}
}

func TestAroundRefuses(t *testing.T) {
	refused := func(o api.Point, ps ...api.Point) {
		t.Helper()
		if l, e := Around(o, ps...); len(l) != 0 || e != api.ErrArg {
			t.Errorf("P2.3: Around(%v, ...): %v, %v", o, l, e)
		}
	}
	for _, far := range beyond() {
		refused(far)
		refused(far, far)
		refused(pt(0, 0), pt(1, 1), far)
	}
	refused(pt(0, 0), pt(0, 0))
	refused(pt(3, 4), pt(1, 1), pt(2, 2), pt(3, 4))
	many := make([]api.Point, 4097)
	refused(pt(1, 1), many...)
	if l, e := Around(pt(1, 1), many[:4096]...); len(l) != 4096 || e != api.OK || !slices.IsSorted(l) {
		t.Errorf("P2.3: of 4,096 points: %d, %v", len(l), e)
	}
}
