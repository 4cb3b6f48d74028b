package geom

import (
	"math/rand"
	"slices"
	"testing"

	"tracery/api"
)

func TestSimple(t *testing.T) {
	for _, c := range []struct {
		ps   []api.Point
		want bool
	}{
		{line(0, 0, 4, 0, 4, 4, 2, -1), false},
		{line(0, 0, 2, 0, 2, 2, 0, 0), true},
		{line(7, 7), true},
		{line(0, 0, 1, 1), true},
		{line(0, 0, 0, 0), false},
		{line(0, 0, 1, 0, 1, 0, 2, 0), false},
		{line(0, 0, 1, 0, 0, 0), false},                        // there and back: three points only
		{line(0, 0, 1, 0, 3, 0), true},                         // straight on
		{line(0, 0, 3, 0, 1, 0), false},                        // back on itself
		{line(0, 0, 4, 0, 4, 4, 2, 0), false},                  // an end on an earlier segment
		{line(0, 0, 4, 0, 4, 4, 0, 4, 0, 0), true},             // closed
		{line(0, 0, 4, 0, 4, 4, 0, 4, 0, 0, -1, 0), false},     // closed, and on
		{line(0, 0, 4, 0, 4, 4, 2, 0, 0, 0), false},            // closed, the last segment on the first
		{line(0, 0, 2, 0, 5, 0, 0, 0), false},                  // closed, on one line
		{line(0, 0, 4, 0, 0, 4, 4, 4, 0, 0), false},            // closed, and crossing
		{line(0, 0, 4, 0, 2, 2, 2, 0, 2, -2, 0, 0), false},     // closed, through the first segment
		{line(0, 0, 1, 0, 0, 0, 1, 0), false},                  // over and over
		{line(0, 0, 4, 0, 4, 4, 0, 4, 0, 1, 3, 1, 3, 3), true}, // inwards
	} {
		if ok, e := Simple(c.ps...); ok != c.want || e != api.OK {
			t.Errorf("P2.4: Simple%v: %v, %v", c.ps, ok, e)
		}
		slices.Reverse(c.ps)
		if ok, e := Simple(c.ps...); ok != c.want || e != api.OK {
			t.Errorf("P2.4: Simple%v: %v, %v", c.ps, ok, e)
		}
	}
}

// simple by its definition, segment by segment and by fractions.
func simple(ps []api.Point) bool {
	last := len(ps) - 1
	for i := range last {
		if ps[i] == ps[i+1] {
			return false
		}
		for j := i + 1; j < last; j++ {
			n, at := common(ps[i], ps[i+1], ps[j], ps[j+1])
			next := j == i+1 && n == 1 && at.is(spotOf(ps[j]))
			around := i == 0 && j == last-1 && last >= 3 && ps[0] == ps[last] && n == 1 && at.is(spotOf(ps[0]))
			if j == i+1 && !next || j > i+1 && n != 0 && !around {
				return false
			}
		}
	}
	return true
}

func TestSimpleByFractions(t *testing.T) {
	r := rand.New(rand.NewSource(6))
	seen := map[bool]int{}
	for range 20000 {
		ps := small(r, 1+r.Intn(6), 5)
		if r.Intn(2) == 0 {
			ps = append(ps, ps[0])
		}
		told := slices.Clone(ps)
		want := simple(ps)
		seen[want]++
		if ok, e := Simple(ps...); ok != want || e != api.OK || !slices.Equal(ps, told) {
			t.Fatalf("P2.4: Simple%v: %v, %v", told, ok, e)
		}
	}
	if seen[true] < 1000 || seen[false] < 1000 {
		t.Errorf("too few samples of one kind: %v", seen)
	}
}

// comb is a simple polyline of n points, as long as may be.
func comb(n int) []api.Point {
	ps := make([]api.Point, n)
	for i := range ps {
		ps[i] = pt(i/2, (i+1)/2%2*edge)
	}
	return ps
}

func TestSimpleOfMany(t *testing.T) {
	ps := comb(4096)
	if ok, e := Simple(ps...); !ok || e != api.OK {
		t.Errorf("P2.4: of 4,096 points: %v, %v", ok, e)
	}
	ps[4095] = pt(0, 1)
	if ok, e := Simple(ps...); ok || e != api.OK {
		t.Errorf("P2.4: the last segment through all others: %v, %v", ok, e)
	}
	if ok, e := Simple(comb(4097)...); ok || e != api.ErrArg {
		t.Errorf("P2.4: of 4,097 points: %v, %v", ok, e)
	}
}

func TestSimpleRefuses(t *testing.T) {
	if ok, e := Simple(); ok || e != api.ErrArg {
		t.Errorf("P2.4: of none: %v, %v", ok, e)
	}
	for _, far := range beyond() {
		for _, ps := range [][]api.Point{{far}, {far, far}, {pt(0, 0), far}, {far, pt(0, 0)}, {pt(0, 0), pt(0, 0), far}} {
			if ok, e := Simple(ps...); ok || e != api.ErrArg {
				t.Errorf("P2.4: Simple%v: %v, %v", ps, ok, e)
			}
		}
	}
}

func TestApart(t *testing.T) {
	for _, c := range []struct {
		p, q []api.Point
		want bool
	}{
		{line(0, 0, 4, 0), line(0, 1, 4, 1), true},
		{line(0, 0, 4, 0), line(4, 0, 4, 4), true},                           // from end to end
		{line(0, 0, 4, 0), line(4, 4, 4, 0), true},                           //
		{line(0, 0, 4, 0), line(0, 0, 2, 5, 4, 0), true},                     // both ends
		{line(0, 0, 4, 0), line(4, 0, 2, 0), false},                          // on one line, over each other
		{line(0, 0, 4, 0), line(4, 0, 8, 0), true},                           // on one line, end to end
		{line(0, 0, 4, 0, 8, 0), line(4, 0, 4, 4), false},                    // an end of q only
		{line(0, 0, 4, 0), line(2, 0, 2, 4), false},                          //
		{line(0, 0, 4, 0, 8, 0), line(4, 4, 4, 0, 5, 5), false},              // an end of neither
		{line(0, 0, 2, 2), line(0, 2, 2, 0), false},                          // crossing
		{line(0, 0), line(0, 0), true},                                       // points
		{line(0, 0), line(0, 1), true},                                       //
		{line(0, 0), line(-1, 0, 1, 0), false},                               //
		{line(0, 0), line(0, 0, 1, 0), true},                                 //
		{line(0, 0), line(0, 0, 1, 0, 1, 1, 0, 1, 0, 0), true},               // a ring and its point
		{line(1, 1), line(0, 0, 1, 0, 1, 1, 0, 1, 0, 0), false},              //
		{line(0, 0, 0, 0), line(0, 0, 0, 0, 3, 3), true},                     // segments of one point
		{line(0, 0, 9, 0), line(0, 0, 9, 0), false},                          // the same
		{line(2, 2, 6, 2, 6, 6, 0, 0), line(2, 2, 2, -2, 6, -2, 0, 4), true}, // they cross at a point that is the first of both
		{line(2, 2, 6, 2, 6, 6, 0, 0), line(2, -2, 6, -2, 0, 4), false},      // ... of one only
		{line(0, 0, 4, 0, 4, 4, 2, 0), line(2, 0, 2, -3), true},              // touching at a point that is an end of both
	} {
		if ok, e := Apart(c.p, c.q); ok != c.want || e != api.OK {
			t.Errorf("P2.5: Apart(%v, %v): %v, %v", c.p, c.q, ok, e)
		}
		if ok, e := Apart(c.q, c.p); ok != c.want || e != api.OK {
			t.Errorf("P2.5: Apart(%v, %v): %v, %v", c.q, c.p, ok, e)
		}
	}
}

// apart by its definition, segment by segment and by fractions.
func apart(p, q []api.Point) bool {
	isEnd := func(s spot, l []api.Point) bool { return s.is(spotOf(l[0])) || s.is(spotOf(l[len(l)-1])) }
	next := func(l []api.Point, i int) api.Point { return l[min(i+1, len(l)-1)] }
	for i := range p {
		for j := range q {
			n, at := common(p[i], next(p, i), q[j], next(q, j))
			if n == 2 || n == 1 && !(isEnd(at, p) && isEnd(at, q)) {
				return false
			}
		}
	}
	return true
}

func TestApartByFractions(t *testing.T) {
	r := rand.New(rand.NewSource(8))
	seen := map[bool]int{}
	for range 20000 {
		p, q := small(r, 1+r.Intn(4), 5), small(r, 1+r.Intn(4), 5)
		if r.Intn(2) == 0 {
			q[0] = p[len(p)-1]
		}
		if r.Intn(3) == 0 {
			q[len(q)-1] = p[0]
		}
		oldP, oldQ := slices.Clone(p), slices.Clone(q)
		want := apart(p, q)
		seen[want]++
		if ok, e := Apart(p, q); ok != want || e != api.OK || !slices.Equal(p, oldP) || !slices.Equal(q, oldQ) {
			t.Fatalf("P2.5: Apart(%v, %v): %v, %v", oldP, oldQ, ok, e)
		}
	}
	if seen[true] < 1000 || seen[false] < 1000 {
		t.Errorf("too few samples of one kind: %v", seen)
	}
}

func TestApartRefuses(t *testing.T) {
	refused := func(p, q []api.Point) {
		t.Helper()
		if ok, e := Apart(p, q); ok || e != api.ErrArg {
			t.Errorf("P2.5: of %d and %d points: %v, %v", len(p), len(q), ok, e)
		}
		if ok, e := Apart(q, p); ok || e != api.ErrArg {
			t.Errorf("P2.5: of %d and %d points: %v, %v", len(q), len(p), ok, e)
		}
	}
	refused(nil, nil)
	refused([]api.Point{}, line(0, 0))
	refused(nil, line(0, 0, 1, 1))
	for _, far := range beyond() {
		refused([]api.Point{far}, line(0, 0))
		refused([]api.Point{pt(5, 5), far}, line(0, 0, 1, 1))
	}
	refused(comb(4097), line(0, -1))
	if ok, e := Apart(comb(4096), changed(comb(4096), func(p api.Point) api.Point { return pt(-1-p.X, p.Y) })); !ok || e != api.OK {
		t.Errorf("P2.5: of 4,096 points: %v, %v", ok, e)
	}
}
