package judge

import (
	"math/rand"
	"slices"
	"testing"

	"tracery/api"
	"tracery/maker"
	"tracery/rot"
)

// made hands on what a maker's call answers.
func made(t *testing.T) func(g api.Net, err api.Errno) api.Net {
	return func(g api.Net, err api.Errno) api.Net {
		t.Helper()
		if err != api.OK {
			t.Fatalf("the maker refused: %v", err)
		}
		return g
	}
}

// squares is a net of rows and columns with a diagonal in each square, the origin in its midst.
func squares(side, step int) row {
	g, at := api.Net{N: side * side}, []api.Point(nil)
	for v := range g.N {
		x, y := v%side, v/side
		at = append(at, pt((x-side/2)*step, (y-side/2)*step))
		if x+1 < side {
			g.Edges = append(g.Edges, [2]int{v, v + 1})
		}
		if y+1 < side {
			g.Edges = append(g.Edges, [2]int{v + side, v})
		}
		if x+1 < side && y+1 < side {
			g.Edges = append(g.Edges, [2]int{v, v + side + 1})
		}
	}
	return row{"squares", g, straight(g, at), nil}
}

// wheel is a wheel whose rim lies on a parabola.
func wheel(t *testing.T, half int) row {
	g := made(t)(maker.Wheel(2*half + 1))
	var at []api.Point
	for x := -half; x <= half; x++ {
		at = append(at, pt(x, x*x))
	}
	at = append(at, pt(0, half*half/2))
	return row{"a wheel", g, straight(g, at), nil}
}

// bond is two nodes and k edges, one bend each, the edges upwards in the order of their numbers.
func bond(t *testing.T, k int) row {
	g := made(t)(maker.Bond(k))
	p := plot(line(0, 0, edge, 0))
	for i := range k {
		p.Lines = append(p.Lines, line(0, 0, edge/2, i-k/2, edge, 0))
	}
	return row{"a bond", g, p, nil}
}

// flowers is one node with k loops side by side, upwards in the order of their numbers.
func flowers(k int) row {
	g, p := of(1), plot(line(-edge, 0))
	for i := range k {
		g.Edges = append(g.Edges, [2]int{0, 0})
		p.Lines = append(p.Lines, line(-edge, 0, edge, 2*i-k, edge, 2*i+1-k, -edge, 0))
	}
	return row{"flowers", g, p, nil}
}

// zigzags are k long lines, each hardly above the one ahead.
func zigzags(k, points int) row {
	g, p := of(2*k), api.Plot{}
	for i := range k {
		l := make([]api.Point, points)
		for n := range l {
			l[n] = pt(n*100, n%2*1000+i)
		}
		g.Edges = append(g.Edges, [2]int{2 * i, 2*i + 1})
		p.At = append(p.At, l[0], l[points-1])
		p.Lines = append(p.Lines, l)
	}
	return row{"zigzags", g, p, nil}
}

// TestGreat: plots as great as they may be, or nearly.
func TestGreat(t *testing.T) {
	for _, r := range []row{squares(32, 1), squares(32, 60000), wheel(t, 511), bond(t, 1000), flowers(1000), zigzags(5, 4096)} {
		checkRows(t, []row{r})
		turns, _ := Turns(r.g, r.p)
		if genus, err := rot.Genus(r.g, turns); genus != 0 || err != api.OK {
			t.Errorf("what follows: %s: genus %d, %v", r.name, genus, err)
		}
	}
}

// down is the numbers from high to low.
func down(high, low int) []int {
	var list []int
	for i := high; i >= low; i-- {
		list = append(list, i)
	}
	return list
}

// TestTurnsGreat: as many half-edges leave a node as may be, more than a line may have points.
func TestTurnsGreat(t *testing.T) {
	all := flowers(3072)
	got, err := Turns(all.g, all.p)
	if err != api.OK || !equal(got, api.Rot{append(nums(0), down(6143, 1)...)}) {
		t.Errorf("P11.2: 3,072 loops: %v", err)
	}
	r := rand.New(rand.NewSource(118))
	mixed := flowers(2100)
	r.Shuffle(2100, func(i, k int) {
		mixed.p.Lines[i], mixed.p.Lines[k] = mixed.p.Lines[k], mixed.p.Lines[i]
	})
	got, err = Turns(mixed.g, mixed.p)
	if want := byAngles(mixed.g, mixed.p); err != api.OK || !equal(got, want) {
		t.Errorf("P11.2: 2,100 loops in any order: %v", err)
	}
	both := bond(t, 3072)
	first, second := nums(0), nums(1)
	for _, i := range down(3071, 1) {
		first, second = append(first, 2*i), append(second, 2*(3072-i)+1)
	}
	got, err = Turns(both.g, both.p)
	if err != api.OK || !equal(got, api.Rot{first, second}) {
		t.Errorf("P11.2: 3,072 edges: %v", err)
	}
}

// TestOneFlaw: a single flaw in a great plot is found.
func TestOneFlaw(t *testing.T) {
	touching := zigzags(2, 4096)
	touching.name = "a bend that is put on the other line"
	touching.p.Lines[1][3001] = pt(3001*100, 1000)
	pierced := zigzags(1, 4096)
	pierced.name = "a node on a long line"
	pierced.g.N++
	pierced.p.At = append(pierced.p.At, pt(2222*100+10, 100))
	double := bond(t, 1000)
	double.name = "two edges of many on one line"
	double.p.Lines[700] = double.p.Lines[945]
	alone := squares(31, 10)
	alone.name = "a node on a diagonal"
	alone.g.N++
	alone.p.At = append(alone.p.At, pt(35, -25))
	diagonal := slices.Index(alone.g.Edges, [2]int{12*31 + 18, 13*31 + 19})
	crossed := squares(32, 10)
	crossed.name = "the other diagonal of a square"
	last := len(crossed.g.Edges)
	crossed.g.Edges = append(crossed.g.Edges, [2]int{33, 64})
	crossed.p.Lines = append(crossed.p.Lines, []api.Point{crossed.p.At[33], crossed.p.At[64]})
	first := slices.Index(crossed.g.Edges, [2]int{32, 65})
	touching.want, pierced.want, double.want = flaws(8, 0, 1), flaws(7, 0, 2), flaws(8, 700, 945)
	alone.want, crossed.want = flaws(7, diagonal, 961), flaws(8, first, last)
	checkRows(t, []row{touching, pierced, double, alone, crossed})
}

// TestAllFlaws: as many flaws as there may be.
func TestAllFlaws(t *testing.T) {
	heap, err := Check(of(1024), plot(make([]api.Point, 1024)))
	k := 0
	for u := range 1024 {
		for v := u + 1; v < 1024; v++ {
			if k >= len(heap) || heap[k] != (api.Flaw{Code: 4, A: u, B: v}) {
				t.Fatalf("P11.1: all at one point: %d, %v", k, err)
			}
			k++
		}
	}
	if k != len(heap) {
		t.Errorf("P11.1: all at one point: %d, not %d", len(heap), k)
	}
	g := made(t)(maker.Bond(3072))
	same, err := Check(g, straight(g, line(0, 0, 1, 0)))
	if err != api.OK || len(same) != 3072*3071/2 || same[0] != (api.Flaw{Code: 8, B: 1}) || !slices.IsSortedFunc(same, byOrder) || slices.ContainsFunc(same, func(f api.Flaw) bool { return f.A >= f.B }) {
		t.Errorf("P11.1: all on one line: %d, %v", len(same), err)
	}
}

// TestGreatByWords: crowded plots of many edges.
func TestGreatByWords(t *testing.T) {
	r := rand.New(rand.NewSource(119))
	for _, g := range []api.Net{
		made(t)(maker.Complete(20)), made(t)(maker.Random(60, 200, 5)), made(t)(maker.Stack(60, 6)), made(t)(maker.Two(12, 12)),
	} {
		for _, wide := range nums(16, 50, 1000) {
			p := straight(g, spread(r, g.N, wide))
			for e, ends := range g.Edges {
				if ends[0] == ends[1] {
					at := p.At[ends[0]]
					p.Lines[e] = []api.Point{at, pt(at.X+1+e%3, at.Y), pt(at.X, at.Y+1+e%5), at}
				}
			}
			checkByWords(t, g, p)
		}
	}
}
