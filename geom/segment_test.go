package geom

import (
	"math/big"
	"math/rand"
	"testing"

	"tracery/api"
)

// A spot is a point with exact fractions as coordinates.
type spot struct{ x, y *big.Rat }

func spotOf(p api.Point) spot {
	return spot{big.NewRat(int64(p.X), 1), big.NewRat(int64(p.Y), 1)}
}

func (s spot) is(t spot) bool { return s.x.Cmp(t.x) == 0 && s.y.Cmp(t.y) == 0 }

// common works out by fractions what two segments have in common: how many
// points (2 stands for more than one), and if just one, which.
func common(a, b, c, d api.Point) (int, spot) {
	ux, uy, vx, vy := b.X-a.X, b.Y-a.Y, d.X-c.X, d.Y-c.Y
	wx, wy := c.X-a.X, c.Y-a.Y
	if det := ux*vy - uy*vx; det != 0 {
		s, u := big.NewRat(int64(wx*vy-wy*vx), int64(det)), big.NewRat(int64(wx*uy-wy*ux), int64(det))
		if !unit(s) || !unit(u) {
			return 0, spot{}
		}
		return 1, along(a, b, s)
	}
	if ux == 0 && uy == 0 {
		if vx == 0 && vy == 0 {
			return commonOf(a == c), spotOf(a)
		}
		n := commonOf(vx*wy == vy*wx && inSpan(c, d, a))
		return n, spotOf(a)
	}
	if ux*wy != uy*wx {
		return 0, spot{}
	}
	return commonOfLine(a, b, c, d)
}

func commonOf(some bool) int {
	if some {
		return 1
	}
	return 0
}

func unit(s *big.Rat) bool { return s.Sign() >= 0 && s.Cmp(big.NewRat(1, 1)) <= 0 }

func along(a, b api.Point, s *big.Rat) spot {
	p := spotOf(a)
	p.x.Add(p.x, new(big.Rat).Mul(s, big.NewRat(int64(b.X-a.X), 1)))
	p.y.Add(p.y, new(big.Rat).Mul(s, big.NewRat(int64(b.Y-a.Y), 1)))
	return p
}

// inSpan: of three points of one line, whether p is between a and b, by a product of steps.
func inSpan(a, b, p api.Point) bool {
	return (a.X-p.X)*(b.X-p.X)+(a.Y-p.Y)*(b.Y-p.Y) <= 0
}

// commonOfLine: of segments on one line, a and b not the same, by how far along ab each end is.
func commonOfLine(a, b, c, d api.Point) (int, spot) {
	far := func(p api.Point) int { return (p.X-a.X)*(b.X-a.X) + (p.Y-a.Y)*(b.Y-a.Y) }
	lo, hi := max(0, min(far(c), far(d))), min(far(b), max(far(c), far(d)))
	if lo > hi {
		return 0, spot{}
	}
	if lo < hi {
		return 2, spot{}
	}
	return 1, along(a, b, big.NewRat(int64(lo), int64(far(b))))
}

func TestOn(t *testing.T) {
	for _, c := range []struct {
		a, b, p api.Point
		want    bool
	}{
		{pt(0, 0), pt(4, 2), pt(2, 1), true},
		{pt(0, 0), pt(4, 2), pt(0, 0), true},
		{pt(0, 0), pt(4, 2), pt(4, 2), true},
		{pt(4, 2), pt(0, 0), pt(2, 1), true},
		{pt(0, 0), pt(4, 2), pt(2, 2), false},
		{pt(0, 0), pt(4, 2), pt(6, 3), false},
		{pt(0, 0), pt(4, 2), pt(-2, -1), false},
		{pt(0, 0), pt(4, 0), pt(5, 0), false},
		{pt(0, 0), pt(0, 4), pt(0, -1), false},
		{pt(3, 3), pt(3, 3), pt(3, 3), true},
		{pt(3, 3), pt(3, 3), pt(3, 4), false},
		{pt(3, 3), pt(3, 3), pt(4, 4), false},
		{pt(-edge, -edge), pt(edge, edge), pt(0, 0), true},
		{pt(-edge, -edge), pt(edge, edge-1), pt(0, 0), false},
	} {
		if ok, e := On(c.a, c.b, c.p); ok != c.want || e != api.OK {
			t.Errorf("P2.2: On%v: %v, %v", c, ok, e)
		}
	}
}

func TestMeet(t *testing.T) {
	for _, c := range []struct {
		a, b, c, d api.Point
		want       int
	}{
		{pt(0, 0), pt(2, 2), pt(0, 2), pt(2, 0), 1},
		{pt(0, 0), pt(2, 0), pt(1, 0), pt(1, 5), 2},
		{pt(0, 0), pt(2, 0), pt(1, 0), pt(3, 0), 3},
		{pt(0, 0), pt(0, 0), pt(0, 0), pt(0, 0), 2},
		{pt(0, 0), pt(0, 0), pt(1, 0), pt(1, 0), 0},
		{pt(0, 0), pt(3, 1), pt(0, 1), pt(3, 0), 1},  // at no whole point
		{pt(0, 0), pt(1, 0), pt(0, 1), pt(1, 1), 0},  // side by side
		{pt(0, 0), pt(4, 4), pt(3, 0), pt(2, 1), 0},  // boxes that overlap
		{pt(0, 0), pt(4, 4), pt(3, 0), pt(2, 2), 2},  // an end within
		{pt(0, 0), pt(4, 4), pt(4, 4), pt(0, 5), 2},  // an end of both
		{pt(0, 0), pt(4, 4), pt(4, 4), pt(0, 0), 3},  // the same
		{pt(0, 0), pt(9, 0), pt(2, 0), pt(3, 0), 3},  // one within the other
		{pt(2, 0), pt(3, 0), pt(0, 0), pt(9, 0), 3},  //
		{pt(0, 0), pt(2, 0), pt(0, 0), pt(9, 0), 3},  // from one end
		{pt(0, 0), pt(2, 0), pt(2, 0), pt(9, 0), 2},  // end to end
		{pt(0, 0), pt(2, 0), pt(3, 0), pt(9, 0), 0},  // with a gap
		{pt(0, 0), pt(4, 2), pt(2, 1), pt(2, 1), 2},  // a point on a segment
		{pt(2, 1), pt(2, 1), pt(0, 0), pt(4, 2), 2},  //
		{pt(0, 0), pt(4, 2), pt(6, 3), pt(6, 3), 0},  // a point on the line only
		{pt(0, 0), pt(4, 2), pt(1, 1), pt(1, 1), 0},  // a point beside
		{pt(0, 0), pt(4, 0), pt(5, 5), pt(5, -5), 0}, // short of it
		{pt(-edge, -edge), pt(edge, edge), pt(-edge, edge), pt(edge, -edge), 1},
		{pt(-edge, -edge), pt(edge, edge), pt(edge, edge-1), pt(edge-1, edge-2), 0},
		{pt(-edge, -edge), pt(edge, edge), pt(edge, edge-1), pt(edge-1, edge-1), 2},
		{pt(-edge, -edge), pt(edge, edge-1), pt(edge-1, edge-2), pt(edge-1, edge-1), 1},
	} {
		if n, e := Meet(c.a, c.b, c.c, c.d); n != c.want || e != api.OK {
			t.Errorf("P2.2: Meet%v: %d, %v", c, n, e)
		}
	}
}

func TestMeetByFractions(t *testing.T) {
	r := rand.New(rand.NewSource(5))
	seen := [4]int{}
	for range 40000 {
		ps := small(r, 4, 5)
		want, at := common(ps[0], ps[1], ps[2], ps[3])
		switch want {
		case 1:
			for _, p := range ps {
				if at.is(spotOf(p)) {
					want = 2
				}
			}
		case 2:
			want = 3
		}
		seen[want]++
		if n, e := Meet(ps[0], ps[1], ps[2], ps[3]); n != want || e != api.OK {
			t.Fatalf("P2.2: Meet%v: %d, %v, not %d", ps, n, e, want)
		}
		on, _ := On(ps[0], ps[1], ps[2])
		if n, _ := common(ps[0], ps[1], ps[2], ps[2]); on != (n == 1) {
			t.Fatalf("P2.2: On%v: %v", ps[:3], on)
		}
	}
	for how, n := range seen {
		if n < 100 {
			t.Errorf("only %d samples meet as %d", n, how)
		}
	}
}

func TestSegmentsRefuse(t *testing.T) {
	for _, far := range beyond() {
		for i := range 4 {
			ps := line(0, 0, 2, 2, 0, 2, 2, 0)
			ps[i] = far
			if n, e := Meet(ps[0], ps[1], ps[2], ps[3]); n != 0 || e != api.ErrArg {
				t.Errorf("P2.2: Meet%v: %d, %v", ps, n, e)
			}
			if i == 3 {
				continue
			}
			if ok, e := On(ps[0], ps[1], ps[2]); ok || e != api.ErrArg {
				t.Errorf("P2.2: On%v: %v, %v", ps[:3], ok, e)
			}
		}
		if ok, e := On(far, far, far); ok || e != api.ErrArg {
			t.Errorf("P2.2: On of %v alone: %v, %v", far, ok, e)
		}
	}
}
