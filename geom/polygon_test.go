package geom

import (
	"math/big"
	"math/rand"
	"slices"
	"testing"

	"tracery/api"
)

func TestArea(t *testing.T) {
	for _, c := range []struct {
		ps   []api.Point
		want int64
	}{
		{line(0, 0, 2, 0, 2, 1, 0, 1), 4},
		{line(0, 1, 2, 1, 2, 0, 0, 0), -4},
		{line(5, 5, 6, 5, 5, 6), 1},
		{nil, 0},
		{line(5, 6), 0},
		{line(5, 6, 9, 2), 0},
		{line(0, 0, 1, 1, 2, 2), 0},
		{line(0, 0, 2, 2, 2, 0, 0, 2), 0},
		{corners(), 8 << 40},
	} {
		if n, e := Area(c.ps...); n != c.want || e != api.OK {
			t.Errorf("P2.6: Area%v: %d, %v", c.ps, n, e)
		}
	}
}

// TestAreaOfMany goes round the outermost square a thousand times.
func TestAreaOfMany(t *testing.T) {
	ps := slices.Repeat(corners(), 1024)
	if n, e := Area(ps...); n != 8<<50 || e != api.OK {
		t.Errorf("P2.6: %d, %v", n, e)
	}
	slices.Reverse(ps)
	if n, e := Area(ps...); n != -8<<50 || e != api.OK {
		t.Errorf("P2.6: %d, %v", n, e)
	}
}

func TestAreaByItsSum(t *testing.T) {
	r := rand.New(rand.NewSource(9))
	for range 2000 {
		ps := make([]api.Point, 3+r.Intn(6))
		for i := range ps {
			ps[i] = pt(r.Intn(2*edge+1)-edge, r.Intn(2*edge+1)-edge)
		}
		sum := new(big.Int)
		for i, p := range ps {
			q := ps[(i+1)%len(ps)]
			sum.Add(sum, new(big.Int).Mul(big.NewInt(int64(p.X)), big.NewInt(int64(q.Y))))
			sum.Sub(sum, new(big.Int).Mul(big.NewInt(int64(q.X)), big.NewInt(int64(p.Y))))
		}
		if n, e := Area(ps...); n != sum.Int64() || e != api.OK {
			t.Fatalf("P2.6: Area%v: %d, %v, not %v", ps, n, e, sum)
		}
	}
}

func TestBox(t *testing.T) {
	for _, c := range []struct{ ps, want []api.Point }{
		{line(3, -1, -2, 5), line(-2, -1, 3, 5)},
		{line(4, 7), line(4, 7, 4, 7)},
		{line(1, 9, 5, 5, 9, 1), line(1, 1, 9, 9)},
		{line(-9, -1, -5, -5, -1, -9), line(-9, -9, -1, -1)},
		{corners(), line(-edge, -edge, edge, edge)},
		{comb(4096), line(0, 0, 2047, edge)},
	} {
		if a, b, e := Box(c.ps...); a != c.want[0] || b != c.want[1] || e != api.OK {
			t.Errorf("P2.6: Box of %d points: %v, %v, %v", len(c.ps), a, b, e)
		}
	}
}

func TestPolygonsRefuse(t *testing.T) {
	refused := func(want api.Errno, ps ...api.Point) {
		t.Helper()
		if a, b, e := Box(ps...); a != (api.Point{}) || b != (api.Point{}) || e != want {
			t.Errorf("P2.6: Box of %d points: %v, %v, %v", len(ps), a, b, e)
		}
	}
	refused(api.ErrSmall)
	refused(api.ErrSmall, []api.Point{}...)
	refused(api.ErrArg, comb(4097)...)
	for _, far := range beyond() {
		refused(api.ErrArg, far)
		refused(api.ErrArg, pt(1, 2), far, pt(3, 4))
		for n := range 4 {
			ps := append(line(0, 0, 1, 0, 1, 1)[:n], far)
			if sum, e := Area(ps...); sum != 0 || e != api.ErrArg {
				t.Errorf("P2.6: Area%v: %d, %v", ps, sum, e)
			}
		}
	}
	if sum, e := Area(comb(4097)...); sum != 0 || e != api.ErrArg {
		t.Errorf("P2.6: Area of 4,097 points: %d, %v", sum, e)
	}
}
