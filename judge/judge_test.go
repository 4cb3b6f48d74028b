package judge

import (
	"cmp"
	"math"
	"slices"
	"testing"

	"tracery/api"
)

const edge = api.MaxCoord

func pt(x, y int) api.Point { return api.Point{X: x, Y: y} }

// line is a polyline of the numbers x, y, x, y ...
func line(xy ...int) []api.Point {
	var ps []api.Point
	for i := 0; i+1 < len(xy); i += 2 {
		ps = append(ps, pt(xy[i], xy[i+1]))
	}
	return ps
}

// of is a net of n nodes, the ends of its edges in a row.
func of(n int, ends ...int) api.Net {
	g := api.Net{N: n}
	for i := 0; i+1 < len(ends); i += 2 {
		g.Edges = append(g.Edges, [2]int{ends[i], ends[i+1]})
	}
	return g
}

func plot(at []api.Point, lines ...[]api.Point) api.Plot { return api.Plot{At: at, Lines: lines} }

// straight is the plot of g whose lines have just their two ends.
func straight(g api.Net, at []api.Point) api.Plot {
	p := api.Plot{At: at}
	for _, ends := range g.Edges {
		p.Lines = append(p.Lines, []api.Point{at[ends[0]], at[ends[1]]})
	}
	return p
}

func nums(list ...int) []int { return list }

// flaws are those of the numbers Code, A, B, Code, A, B ...
func flaws(list ...int) []api.Flaw {
	var all []api.Flaw
	for i := 0; i+2 < len(list); i += 3 {
		all = append(all, api.Flaw{Code: list[i], A: list[i+1], B: list[i+2]})
	}
	return all
}

// far are coordinates beyond what may be, either way.
func far() []int {
	return nums(edge+1, -edge-1, edge+2, 1<<32, -1<<32, math.MaxInt, math.MinInt, math.MinInt+1)
}

// beyond are points that may not be, most of them by one coordinate.
func beyond() []api.Point {
	var ps []api.Point
	for _, x := range far() {
		ps = append(ps, pt(x, 0), pt(0, x), pt(x, x))
	}
	return ps
}

// wrong are nets that may not be.
func wrong() []api.Net {
	list := []api.Net{
		{N: -1}, {N: math.MinInt}, {N: 1025}, {N: math.MaxInt}, {N: 1 << 32},
		of(0, 0, 0), of(-1, 0, 0), of(1025, 0, 1), of(1, 0, 1), of(1, 1, 0), of(3, 0, 1, 1, 2, 3, 3),
		{N: 1, Edges: make([][2]int, 3073)}, {N: 1024, Edges: make([][2]int, 5000)},
	}
	for _, x := range nums(-1, 4, 1024, math.MinInt, math.MaxInt, 1<<32) {
		list = append(list, of(4, 0, x), of(4, x, 0), of(4, x, x), of(4, 0, 1, 2, 3, 1, x), of(4, x, 1, 2, 3))
	}
	return list
}

// comb is a simple polyline of n points from the point (x, y) on, up and down and to the right.
func comb(x, y, n int) []api.Point {
	ps := make([]api.Point, n)
	for i := range ps {
		ps[i] = pt(x+i/2, y+(i+1)/2%2*100)
	}
	return ps
}

// example is the net, its points and its second line of the chapter's examples.
func example() (api.Net, []api.Point, []api.Point) {
	return of(3, 0, 1, 1, 2), line(0, 0, 2, 0, 1, 0), line(2, 0, 1, 0)
}

func TestExamples(t *testing.T) {
	g, at, direct := example()
	fine := plot(at, line(0, 0, 1, 1, 2, 0), direct)
	for i, row := range []struct {
		p    api.Plot
		want []api.Flaw
	}{
		{plot(at, line(0, 0, 2, 0), direct), flaws(7, 0, 2, 8, 0, 1)},
		{fine, nil},
		{plot(at, line(0, 0), direct), flaws(3, 0, 0)},
	} {
		if got, err := Check(g, row.p); err != api.OK || !slices.Equal(got, row.want) {
			t.Errorf("P11.1: the example %d: %v, %v", i, got, err)
		}
	}
	want := api.PlotLook{Bends: 1, Width: 2, Height: 1}
	if look, err := Look(g, fine); err != api.OK || look != want {
		t.Errorf("P11.3: the example: %v, %v", look, err)
	}
}

// A row is a net, a plot of it, and its flaws.
type row struct {
	name string
	g    api.Net
	p    api.Plot
	want []api.Flaw
}

// checkRows holds Check against each row, and what the other calls make of its flaws.
func checkRows(t *testing.T, rows []row) {
	t.Helper()
	for _, r := range rows {
		got, err := Check(r.g, r.p)
		if err != api.OK || !slices.Equal(got, r.want) {
			t.Errorf("P11.1: %s: %v, %v, want %v", r.name, got, err, r.want)
		}
		checkOthers(t, r)
	}
}

// checkOthers: where there is a flaw Turns is ErrShape and Fits is false; Look is ErrShape of a 1, 2 or 3 alone.
func checkOthers(t *testing.T, r row) {
	t.Helper()
	flawed := len(r.want) > 0
	turns, err := Turns(r.g, r.p)
	if flawed && (err != api.ErrShape || len(turns) > 0) || !flawed && err != api.OK {
		t.Errorf("P11.2: Turns, %s: %v, %v", r.name, turns, err)
	}
	x := turns
	if flawed {
		x = rising(r.g)
	}
	if ok, err := Fits(r.g, x, r.p); ok == flawed || err != api.OK {
		t.Errorf("P11.2: Fits, %s: %v, %v", r.name, ok, err)
	}
	unreadable := flawed && r.want[0].Code <= 3
	look, err := Look(r.g, r.p)
	if unreadable && (err != api.ErrShape || look != (api.PlotLook{})) || !unreadable && err != api.OK {
		t.Errorf("P11.3: Look, %s: %v, %v", r.name, look, err)
	}
}

// rising is the rotation whose lists rise.
func rising(g api.Net) api.Rot {
	r := make(api.Rot, g.N)
	for h := range 2 * len(g.Edges) {
		v := g.Edges[h/2][h%2]
		r[v] = append(r[v], h)
	}
	return r
}

func TestNothing(t *testing.T) {
	checkRows(t, []row{
		{"no node", of(0), api.Plot{}, nil},
		{"no node, empty lists", of(0), plot([]api.Point{}, [][]api.Point{}...), nil},
		{"one node", of(1), plot(line(-5, 7)), nil},
		{"one node at a corner", of(1), plot(line(edge, -edge)), nil},
		{"nodes alone", of(4), plot(line(0, 0, 1, 0, 0, 1, -1, 0)), nil},
		{"an edge", of(2, 0, 1), plot(line(0, 0, 3, 1), line(0, 0, 3, 1)), nil},
		{"an edge from the greater node", of(2, 1, 0), plot(line(0, 0, 3, 1), line(3, 1, 0, 0)), nil},
		{"a loop", of(1, 0, 0), plot(line(0, 0), line(0, 0, 2, 0, 2, 2, 0, 0)), nil},
		{"across all", of(2, 0, 1), plot(line(-edge, -edge, edge, edge), line(-edge, -edge, edge, -edge, edge, edge)), nil},
	})
}

// TestNumbers: with a 1 nothing else is told, whatever else is wrong.
func TestNumbers(t *testing.T) {
	g, at, direct := example()
	one := line(0, 0, 2, 0)
	bad := line(edge+1, 0, 0, 0)
	checkRows(t, []row{
		{"nothing", g, api.Plot{}, flaws(1, 0, 0)},
		{"no points", g, plot(nil, one, direct), flaws(1, 0, 0)},
		{"no lines", g, plot(at), flaws(1, 0, 0)},
		{"a point too few", g, plot(at[:2], one, direct), flaws(1, 0, 0)},
		{"a point too many", g, plot(line(0, 0, 2, 0, 1, 0, 5, 5), one, direct), flaws(1, 0, 0)},
		{"a line too few", g, plot(at, one), flaws(1, 0, 0)},
		{"a line too many", g, plot(at, one, direct, line(5, 5, 6, 6)), flaws(1, 0, 0)},
		{"a point too few, a line too many", g, plot(at[:2], one, direct, direct), flaws(1, 0, 0)},
		{"no node, a point", of(0), plot(line(0, 0)), flaws(1, 0, 0)},
		{"no node, a line", of(0), plot(nil, one), flaws(1, 0, 0)},
		{"no edge, a line", of(2), plot(line(0, 0, 2, 0), one), flaws(1, 0, 0)},
		{"no edge, a nil line", of(2), plot(line(0, 0, 2, 0), nil), flaws(1, 0, 0)},
		{"points that may not be", g, plot(bad, one, direct), flaws(1, 0, 0)},
		{"lines that may not be", g, plot(at, bad), flaws(1, 0, 0)},
		{"lines without points", g, plot(at, nil, nil, nil), flaws(1, 0, 0)},
		{"nodes at one point", of(2), plot(line(0, 0, 0, 0, 0, 0)), flaws(1, 0, 0)},
		{"as many as there may be", of(1), plot(make([]api.Point, 5000), make([][]api.Point, 5000)...), flaws(1, 0, 0)},
	})
}

// TestPoints: with a 2 nothing above 3 is told.
func TestPoints(t *testing.T) {
	g, at, direct := example()
	for _, bad := range beyond() {
		for v := range at {
			moved := slices.Clone(at)
			moved[v] = bad
			checkRows(t, []row{
				{"one of three", g, plot(moved, line(0, 0, 1, 1, 2, 0), direct), flaws(2, v, 0)},
				{"nodes alone", of(3), plot(moved), flaws(2, v, 0)},
				{"lines that cross, tangle and end elsewhere", g, plot(moved, line(0, 0, 2, 0, 0, 0), line(7, 7, 1, 0)), flaws(2, v, 0)},
				{"a line without points", g, plot(moved, line(0, 0, 1, 1, 2, 0), nil), flaws(2, v, 0, 3, 1, 0)},
			})
		}
		checkRows(t, []row{
			{"all at one that may not be", of(3), plot([]api.Point{bad, bad, bad}), flaws(2, 0, 0, 2, 1, 0, 2, 2, 0)},
			{"a line there", of(2, 0, 1), plot([]api.Point{bad, pt(1, 1)}, []api.Point{bad, pt(1, 1)}), flaws(2, 0, 0, 3, 0, 0)},
			{"nodes at one point beside it", of(3), plot([]api.Point{pt(3, 3), bad, pt(3, 3)}), flaws(2, 1, 0)},
		})
	}
	all := line(edge, edge, -edge, edge, edge, -edge, -edge, -edge)
	checkRows(t, []row{{"at the corners of what may be", of(4), plot(all), nil}})
}

// TestLines: with a 3 nothing above 3 is told.
func TestLines(t *testing.T) {
	g, at, direct := example()
	up := line(0, 0, 1, 1, 2, 0)
	rows := []row{
		{"no point, nil", g, plot(at, nil, direct), flaws(3, 0, 0)},
		{"no point, empty", g, plot(at, []api.Point{}, direct), flaws(3, 0, 0)},
		{"one point", g, plot(at, line(0, 0), direct), flaws(3, 0, 0)},
		{"one point, of the other", g, plot(at, up, line(2, 0)), flaws(3, 1, 0)},
		{"one point of a loop", of(1, 0, 0), plot(line(0, 0), line(0, 0)), flaws(3, 0, 0)},
		{"both", g, plot(at, nil, line(2, 0)), flaws(3, 0, 0, 3, 1, 0)},
		{"nodes at one point", of(3, 0, 1), plot(line(0, 0, 2, 0, 0, 0), line(0, 0)), flaws(3, 0, 0)},
		{"the other tangled and loose", g, plot(at, nil, line(2, 0, 3, 0, 2, 0)), flaws(3, 0, 0)},
		{"the others cross", of(6, 0, 1, 2, 3, 4, 5), plot(line(0, 0, 2, 2, 0, 2, 2, 0, 9, 9, 9, 8), line(0, 0, 2, 2), line(0, 2, 2, 0), line(9, 9)), flaws(3, 2, 0)},
	}
	for _, bad := range beyond() {
		rows = append(rows,
			row{"the first point may not be", g, plot(at, []api.Point{bad, pt(2, 0)}, direct), flaws(3, 0, 0)},
			row{"the last point may not be", g, plot(at, up, []api.Point{pt(2, 0), bad}), flaws(3, 1, 0)},
			row{"a bend may not be", g, plot(at, []api.Point{pt(0, 0), pt(1, 1), bad, pt(2, 0)}, direct), flaws(3, 0, 0)},
			row{"one point that may not be", g, plot(at, []api.Point{bad}, direct), flaws(3, 0, 0)},
		)
	}
	checkRows(t, rows)
}

// TestLongLines: lines have 2 to 4,096 points.
func TestLongLines(t *testing.T) {
	joined := func(n int) row {
		l := comb(0, 0, n)
		return row{"long", of(2, 0, 1), plot([]api.Point{l[0], l[n-1]}, l), nil}
	}
	most, more := joined(4096), joined(4097)
	more.want = flaws(3, 0, 0)
	same := row{"4,097 times one point", of(1, 0, 0), plot(line(0, 0), make([]api.Point, 4097)), flaws(3, 0, 0)}
	tangled := row{"4,096 times one point", of(1, 0, 0), plot(line(0, 0), make([]api.Point, 4096)), flaws(6, 0, 0)}
	checkRows(t, []row{joined(2), joined(3), joined(9), joined(10), joined(4095), most, more, same, tangled})
	if look, err := Look(most.g, most.p); err != api.OK || look != (api.PlotLook{Bends: 4094, Width: 2047, Height: 100, Axis: true}) {
		t.Errorf("P11.3: of 4,096 points: %v, %v", look, err)
	}
}

// TestSamePoint: a 4 hides nothing.
func TestSamePoint(t *testing.T) {
	checkRows(t, []row{
		{"two alone", of(2), plot(line(5, 5, 5, 5)), flaws(4, 0, 1)},
		{"two at a corner", of(2), plot(line(-edge, edge, -edge, edge)), flaws(4, 0, 1)},
		{"apart by one coordinate", of(3), plot(line(5, 5, 5, 6, 6, 5)), nil},
		{"the first and the last", of(4), plot(line(5, 5, 1, 1, 2, 2, 5, 5)), flaws(4, 0, 3)},
		{"three and two", of(5), plot(line(1, 1, 2, 2, 1, 1, 2, 2, 1, 1)), flaws(4, 0, 2, 4, 0, 4, 4, 1, 3, 4, 2, 4)},
		{"beside a loose line", of(3, 0, 1), plot(line(0, 0, 1, 0, 0, 0), line(0, 0, 2, 0)), flaws(4, 0, 2, 5, 0, 0)},
		{"beside a tangled line", of(3, 0, 1), plot(line(0, 0, 1, 0, 0, 0), line(0, 0, 2, 0, 1, 0)), flaws(4, 0, 2, 6, 0, 0)},
		{"both ends of an edge", of(2, 0, 1), plot(line(0, 0, 0, 0), line(0, 0, 1, 0, 1, 1, 0, 0)), flaws(4, 0, 1)},
		{"both ends of a line without length", of(2, 0, 1), plot(line(0, 0, 0, 0), line(0, 0, 0, 0)), flaws(4, 0, 1, 6, 0, 0)},
		{"one alone at an edge's end", of(3, 0, 1), plot(line(0, 0, 1, 0, 1, 0), line(0, 0, 1, 0)), flaws(4, 1, 2, 7, 0, 2)},
		{"ends of two edges", of(4, 0, 1, 2, 3), plot(line(0, 0, 1, 0, 1, 0, 2, 0), line(0, 0, 1, 0), line(1, 0, 2, 0)), flaws(4, 1, 2, 7, 0, 2, 7, 1, 1, 8, 0, 1)},
		{"ends of edges that share another", of(3, 0, 1, 1, 2), plot(line(0, 0, 4, 0, 0, 0), line(0, 0, 4, 0), line(4, 0, 2, 2, 0, 0)), flaws(4, 0, 2, 7, 0, 2, 7, 1, 0, 8, 0, 1)},
		{"a shared end at the point of another end", of(3, 0, 1, 2, 0), plot(line(0, 0, 4, 0, 0, 0), line(0, 0, 4, 0), line(0, 0, 0, 4, -4, 0, 0, 0)), flaws(4, 0, 2, 7, 0, 2)},
		{"loops of two nodes", of(2, 0, 0, 1, 1), plot(line(0, 0, 0, 0), line(0, 0, 1, 0, 1, 1, 0, 0), line(0, 0, -1, 0, -1, -1, 0, 0)), flaws(4, 0, 1, 7, 0, 1, 7, 1, 0, 8, 0, 1)},
	})
}

// TestLoose: with a 5 nothing above 6 is told.
func TestLoose(t *testing.T) {
	g, at, direct := example()
	up := line(0, 0, 1, 1, 2, 0)
	checkRows(t, []row{
		{"begins elsewhere", g, plot(at, line(0, 1, 2, 0), direct), flaws(5, 0, 0)},
		{"ends elsewhere", g, plot(at, up, line(2, 0, 1, -1)), flaws(5, 1, 0)},
		{"both ends elsewhere", g, plot(at, line(7, 7, 8, 8), direct), flaws(5, 0, 0)},
		{"turned about", g, plot(at, up, line(1, 0, 2, 0)), flaws(5, 1, 0)},
		{"both", g, plot(at, line(0, 1, 2, 0), line(2, 0, 3, 3)), flaws(5, 0, 0, 5, 1, 0)},
		{"another node's line", of(3, 0, 1), plot(at, line(0, 0, 1, 0)), flaws(5, 0, 0)},
		{"a point on the line, but not its first", of(2, 0, 1), plot(line(0, 0, 2, 0), line(-1, 0, 2, 0)), flaws(5, 0, 0)},
		{"a loop's end elsewhere", of(1, 0, 0), plot(line(0, 0), line(0, 0, 1, 0, 1, 1)), flaws(5, 0, 0)},
		{"a loop round another point", of(1, 0, 0), plot(line(0, 0), line(1, 0, 1, 1, 2, 0, 1, 0)), flaws(5, 0, 0)},
		{"tangled too", g, plot(at, line(0, 1, 2, 0, 0, 1), direct), flaws(5, 0, 0, 6, 0, 0)},
		{"one loose, one tangled", g, plot(at, line(0, 0, 3, 0, 2, 0), line(2, 0, 5, 5)), flaws(5, 1, 0, 6, 0, 0)},
		{"nodes on lines, lines that meet", g, plot(at, line(0, 0, 2, 0), line(1, 0, 0, 0)), flaws(5, 1, 0)},
	})
}

// TestTangled: with a 6 nothing above it is told.
func TestTangled(t *testing.T) {
	two, at := of(2, 0, 1), line(0, 0, 4, 0)
	checkRows(t, []row{
		{"a point twice running", two, plot(at, line(0, 0, 0, 0, 4, 0)), flaws(6, 0, 0)},
		{"the last point twice running", two, plot(at, line(0, 0, 4, 0, 4, 0)), flaws(6, 0, 0)},
		{"back on itself", two, plot(at, line(0, 0, 5, 0, 4, 0)), flaws(6, 0, 0)},
		{"straight on", two, plot(at, line(0, 0, 1, 0, 3, 0, 4, 0)), nil},
		{"crossing itself", two, plot(at, line(0, 0, 4, 4, 4, 5, 1, 0, 4, 0)), flaws(6, 0, 0)},
		{"touching itself", two, plot(at, line(0, 0, 0, 4, 4, 4, 0, 2, 4, 0)), flaws(6, 0, 0)},
		{"over its own beginning", two, plot(at, line(0, 0, 2, 2, -2, 2, 0, 0, 4, 0)), flaws(6, 0, 0)},
		{"a loop without length", of(1, 0, 0), plot(line(0, 0), line(0, 0, 0, 0)), flaws(6, 0, 0)},
		{"a loop there and back", of(1, 0, 0), plot(line(0, 0), line(0, 0, 1, 0, 0, 0)), flaws(6, 0, 0)},
		{"a loop round there and back", of(1, 0, 0), plot(line(0, 0), line(0, 0, 1, 0, 2, 0, 0, 0)), flaws(6, 0, 0)},
		{"a loop whose ends leave in one direction", of(1, 0, 0), plot(line(0, 0), line(0, 0, 1, 0, 1, 1, 2, 1, 2, 0, 0, 0)), flaws(6, 0, 0)},
		{"a loop through its point", of(1, 0, 0), plot(line(0, 0), line(0, 0, 2, 2, 2, -2, -2, 2, -2, -2, 0, 0)), flaws(6, 0, 0)},
		{"the second of two", of(2, 0, 1, 0, 1), plot(at, line(0, 0, 4, 0), line(0, 0, 5, 0, 4, 0)), flaws(6, 1, 0)},
		{"both", of(2, 0, 1, 1, 0), plot(at, line(0, 0, 5, 0, 4, 0), line(4, 0, 4, 0, 0, 0)), flaws(6, 0, 0, 6, 1, 0)},
		{"nodes on lines, lines that meet", of(3, 0, 1, 0, 1), plot(line(0, 0, 4, 0, 2, 0), line(0, 0, 4, 0), line(0, 0, 5, 0, 4, 0)), flaws(6, 1, 0)},
	})
}

// TestNodeOnLine: nodes on lines that are none of their ends.
func TestNodeOnLine(t *testing.T) {
	bent := line(0, 0, 2, 4, 4, 0)
	two := func(x, y int) []api.Point { return line(0, 0, 4, 0, x, y) }
	g := of(3, 0, 1)
	checkRows(t, []row{
		{"within a segment", g, plot(two(2, 0), line(0, 0, 4, 0)), flaws(7, 0, 2)},
		{"within the first of two", g, plot(two(1, 2), bent), flaws(7, 0, 2)},
		{"within the second of two", g, plot(two(3, 2), bent), flaws(7, 0, 2)},
		{"at the bend", g, plot(two(2, 4), bent), flaws(7, 0, 2)},
		{"beside", g, plot(two(2, 3), bent), nil},
		{"beyond an end", g, plot(two(5, 0), line(0, 0, 4, 0)), nil},
		{"on the segment's line, beyond the bend", g, plot(two(3, 6), bent), nil},
		{"on a loop", of(2, 0, 0), plot(line(0, 0, 2, 1), line(0, 0, 2, 0, 2, 2, 0, 0)), flaws(7, 0, 1)},
		{"within a loop", of(2, 0, 0), plot(line(0, 0, 2, 1), line(0, 0, 4, 0, 4, 4, 0, 0)), nil},
		{"an end of the edge alone", of(2, 0, 1), plot(line(0, 0, 4, 0), bent), nil},
		{"several", of(5, 3, 1, 1, 3), plot(line(1, 2, 4, 0, 2, 4, 0, 0, 2, 0), bent, line(4, 0, 0, 0)), flaws(7, 0, 0, 7, 0, 2, 7, 1, 4)},
		{"hardly beside a long line", g, plot(line(-edge, -edge, edge, edge-1, edge-1, edge-2), line(-edge, -edge, edge, edge-1)), nil},
		{"hardly beside its middle", g, plot(line(-edge, -edge, edge, edge-1, 0, 0), line(-edge, -edge, edge, edge-1)), nil},
		{"on a long line", g, plot(line(-edge, -edge, edge, edge-2, 0, -1), line(-edge, -edge, edge, edge-2)), flaws(7, 0, 2)},
	})
}

// TestMeeting: lines that have a common point that is no common end.
func TestMeeting(t *testing.T) {
	four := of(4, 0, 1, 2, 3)
	at := func(xy ...int) []api.Point { return line(append(nums(0, 0, 4, 0), xy...)...) }
	flat := line(0, 0, 4, 0)
	checkRows(t, []row{
		{"apart", four, plot(at(0, 1, 4, 1), flat, line(0, 1, 4, 1)), nil},
		{"crossing", four, plot(at(2, 2, 2, -2), flat, line(2, 2, 2, -2)), flaws(8, 0, 1)},
		{"crossing at no whole point", four, plot(at(1, 1, 2, -2), flat, line(1, 1, 2, -2)), flaws(8, 0, 1)},
		{"a bend on the other line", four, plot(at(1, 2, 3, 2), flat, line(1, 2, 2, 0, 3, 2)), flaws(8, 0, 1)},
		{"a bend of both", four, plot(at(0, 4, 4, 4), line(0, 0, 2, 2, 4, 0), line(0, 4, 2, 2, 4, 4)), flaws(8, 0, 1)},
		{"over each other between bends", four, plot(at(1, 2, 3, 2), flat, line(1, 2, 1, 0, 3, 0, 3, 2)), flaws(8, 0, 1)},
		{"over each other along a diagonal", four, plot(at(0, 4, 8, 4), line(0, 0, 3, 3, 4, 0), line(0, 4, 1, 1, 2, 2, 8, 4)), flaws(8, 0, 1)},
		{"an end on the other line", four, plot(at(2, 0, 2, 3), flat, line(2, 0, 2, 3)), flaws(7, 0, 2, 8, 0, 1)},
		{"one within the other", four, plot(at(1, 0, 3, 0), flat, line(1, 0, 3, 0)), flaws(7, 0, 2, 7, 0, 3, 8, 0, 1)},
		{"crossing at the point of a node of neither", of(5, 0, 1, 2, 3), plot(at(2, 2, 2, -2, 2, 0), flat, line(2, 2, 2, -2)), flaws(7, 0, 4, 7, 1, 4, 8, 0, 1)},
		{"at a node of both", of(3, 0, 1, 2, 1), plot(at(4, 4), flat, line(4, 4, 4, 0)), nil},
		{"at a node of both, straight on", of(3, 0, 1, 1, 2), plot(at(8, 0), flat, line(4, 0, 8, 0)), nil},
		{"at a node of both, and crossing", of(3, 0, 1, 2, 1), plot(at(2, 2), flat, line(2, 2, 2, -2, 4, 0)), flaws(8, 0, 1)},
		{"at a node of both, in one direction", of(3, 0, 1, 2, 1), plot(at(2, 2), flat, line(2, 2, 2, 0, 4, 0)), flaws(8, 0, 1)},
		{"over the point of the other edge's end", of(3, 0, 1, 1, 2), plot(at(-4, 0), flat, line(4, 0, 2, 2, 0, 0, -4, 0)), flaws(7, 1, 0, 8, 0, 1)},
		{"parallel, apart", of(2, 0, 1, 1, 0), plot(at(), flat, line(4, 0, 2, 1, 0, 0)), nil},
		{"parallel, the same line", of(2, 0, 1, 0, 1), plot(at(), flat, flat), flaws(8, 0, 1)},
		{"parallel, the same line turned about", of(2, 0, 1, 1, 0), plot(at(), flat, line(4, 0, 0, 0)), flaws(8, 0, 1)},
		{"parallel, crossing", of(2, 0, 1, 0, 1), plot(at(), line(0, 0, 1, 1, 3, -1, 4, 0), line(0, 0, 1, -1, 3, 1, 4, 0)), flaws(8, 0, 1)},
		{"hardly apart", four, plot(line(-edge, -edge, edge, edge, edge, edge-1, edge-1, edge-2), line(-edge, -edge, edge, edge), line(edge, edge-1, edge-1, edge-2)), nil},
		{"hardly crossing", four, plot(line(-edge, -edge, edge, edge-1, edge-1, edge-2, edge-1, edge-1), line(-edge, -edge, edge, edge-1), line(edge-1, edge-2, edge-1, edge-1)), flaws(8, 0, 1)},
	})
}

func TestMeetingLoops(t *testing.T) {
	ring := line(0, 0, 2, 0, 2, 2, 0, 0)
	checkRows(t, []row{
		{"an edge from a loop's node", of(2, 0, 0, 0, 1), plot(line(0, 0, -3, 0), ring, line(0, 0, -3, 0)), nil},
		{"an edge within a loop", of(2, 0, 0, 0, 1), plot(line(0, 0, 3, 1), line(0, 0, 4, 0, 4, 4, 0, 0), line(0, 0, 3, 1)), nil},
		{"an edge out of a loop", of(2, 0, 0, 1, 0), plot(line(0, 0, 4, 2), ring, line(4, 2, 0, 0)), flaws(8, 0, 1)},
		{"an edge along a loop", of(2, 0, 0, 1, 0), plot(line(0, 0, 1, -1), ring, line(1, -1, 1, 0, 0, 0)), flaws(8, 0, 1)},
		{"an edge that touches a loop", of(3, 0, 0, 1, 2), plot(line(0, 0, 3, 3, 3, -3), ring, line(3, 3, 2, 1, 3, -3)), flaws(8, 0, 1)},
		{"loops side by side", of(1, 0, 0, 0, 0), plot(line(0, 0), ring, line(0, 0, -2, 0, -2, -2, 0, 0)), nil},
		{"a loop within another, left open", of(1, 0, 0, 0, 0), plot(line(0, 0), line(0, 0, 9, -1, 9, 9, 0, 0), ring[:3:3]), flaws(5, 1, 0)},
		{"a loop within another, round", of(1, 0, 0, 0, 0), plot(line(0, 0), line(0, 0, 9, -1, 8, 9, 0, 0), ring), nil},
		{"loops that cross", of(1, 0, 0, 0, 0), plot(line(0, 0), line(0, 0, 2, 0, 2, 2, 0, 0), line(0, 0, 4, 1, 4, 9, 0, 0)), flaws(8, 0, 1)},
		{"the same loop", of(1, 0, 0, 0, 0), plot(line(0, 0), ring, ring), flaws(8, 0, 1)},
		{"loops of two nodes, one within the other", of(2, 0, 0, 1, 1), plot(line(0, 0, 6, 3), line(0, 0, 9, 0, 9, 9, 0, 0), line(6, 3, 7, 3, 7, 4, 6, 3)), nil},
		{"loops of two nodes that touch", of(2, 0, 0, 1, 1), plot(line(0, 0, 3, 1), ring, line(3, 1, 3, 2, 2, 1, 3, 1)), flaws(8, 0, 1)},
	})
}

// TestOrder: flaws of several codes stand by Code, then A, then B.
func TestOrder(t *testing.T) {
	star := of(9, 8, 0, 8, 2, 4, 8, 1, 3, 5, 7)
	at := line(-2, 0, -2, 2, 0, 2, 2, -2, 2, 0, -2, -2, -2, -2, 0, 1, 0, 0)
	bent := straight(star, at)
	bent.Lines[4] = line(-2, -2, 3, -2, 3, 1, 0, 1)
	checkRows(t, []row{
		{"all that may be told together", star, straight(star, at), flaws(4, 5, 6, 7, 1, 7, 7, 3, 8, 7, 4, 6, 8, 0, 3, 8, 0, 4, 8, 1, 3, 8, 1, 4, 8, 2, 3, 8, 3, 4)},
		{"bent", star, bent, flaws(4, 5, 6, 7, 1, 7, 7, 3, 8, 7, 4, 3, 7, 4, 6, 8, 0, 3, 8, 1, 3, 8, 1, 4, 8, 2, 3, 8, 3, 4)},
	})
	two := plot([]api.Point{pt(edge+1, 0), pt(0, 0), pt(0, -edge-1), pt(0, 0)}, nil, line(0, 0, 1, 1), line(3, 3))
	checkRows(t, []row{{"2 and 3", of(4, 0, 1, 1, 2, 2, 3), two, flaws(2, 0, 0, 2, 2, 0, 3, 0, 0, 3, 2, 0)}})
	six := plot(line(0, 0, 1, 0, 0, 0, 1, 0), line(0, 0, 3, 0, 1, 0), line(1, 0, 5, 5), line(0, 0, 2, 0, 0, 0), line(1, 0, 0, 0))
	checkRows(t, []row{{"4, 5 and 6", of(4, 0, 1, 1, 2, 2, 3, 3, 0), six, flaws(4, 0, 2, 4, 1, 3, 5, 1, 0, 5, 2, 0, 6, 0, 0, 6, 2, 0)}})
}

// byOrder compares flaws by Code, then A, then B.
func byOrder(a, b api.Flaw) int {
	return cmp.Or(cmp.Compare(a.Code, b.Code), cmp.Compare(a.A, b.A), cmp.Compare(a.B, b.B))
}

// TestRefused: ErrArg, if the net may not be, ahead of all else.
func TestRefused(t *testing.T) {
	g, at, direct := example()
	fine := plot(at, line(0, 0, 1, 1, 2, 0), direct)
	for _, bad := range wrong() {
		for _, p := range []api.Plot{fine, {}, plot(at), plot(nil, direct), plot(beyond(), nil)} {
			list, a := Check(bad, p)
			turns, b := Turns(bad, p)
			look, c := Look(bad, p)
			if a != api.ErrArg || b != api.ErrArg || c != api.ErrArg || len(list) > 0 || len(turns) > 0 || look != (api.PlotLook{}) {
				t.Errorf("ErrArg: of %d nodes: %v, %v, %v", bad.N, a, b, c)
			}
			for _, r := range []api.Rot{nil, {{0}, {1, 2}, {3}}} {
				if ok, err := Fits(bad, r, p); ok || err != api.ErrArg {
					t.Errorf("ErrArg: Fits of %d nodes: %v, %v", bad.N, ok, err)
				}
			}
		}
	}
	if list, err := Check(g, fine); err != api.OK || len(list) > 0 {
		t.Errorf("P11.1: %v, %v", list, err)
	}
}
