package judge

import (
	"math/rand"
	"testing"

	"tracery/api"
)

func TestLook(t *testing.T) {
	two := of(2, 0, 1)
	at := line(0, 0, 4, 0)
	for _, row := range []struct {
		name string
		g    api.Net
		p    api.Plot
		want api.PlotLook
	}{
		{"no node", of(0), api.Plot{}, api.PlotLook{Straight: true, Axis: true}},
		{"one node far out", of(1), plot(line(-edge, edge)), api.PlotLook{Straight: true, Axis: true}},
		{"nodes alone", of(3), plot(line(-5, -9, -7, -9, -6, -4)), api.PlotLook{Width: 2, Height: 5, Straight: true, Axis: true}},
		{"a level edge", two, plot(at, line(0, 0, 4, 0)), api.PlotLook{Width: 4, Straight: true, Axis: true}},
		{"an upright edge", two, plot(line(3, 9, 3, 2), line(3, 9, 3, 2)), api.PlotLook{Height: 7, Straight: true, Axis: true}},
		{"a slanting edge", two, plot(line(3, 9, 4, 2), line(3, 9, 4, 2)), api.PlotLook{Width: 1, Height: 7, Straight: true}},
		{"a bend", two, plot(at, line(0, 0, 2, -3, 4, 0)), api.PlotLook{Bends: 1, Width: 4, Height: 3}},
		{"a bend that turns nowhere", two, plot(at, line(0, 0, 2, 0, 4, 0)), api.PlotLook{Bends: 1, Width: 4, Axis: true}},
		{"bends along the axes, beyond the nodes", two, plot(at, line(0, 0, 0, 3, 6, 3, 6, -2, 4, -2, 4, 0)), api.PlotLook{Bends: 4, Width: 6, Height: 5, Axis: true}},
		{"the first segment slants", two, plot(at, line(0, 0, 1, 1, 4, 1, 4, 0)), api.PlotLook{Bends: 2, Width: 4, Height: 1}},
		{"the last segment slants", two, plot(at, line(0, 0, 0, 1, 3, 1, 4, 0)), api.PlotLook{Bends: 2, Width: 4, Height: 1}},
		{"one line slants", of(2, 0, 1, 0, 1), plot(at, line(0, 0, 4, 0), line(0, 0, 2, 1, 4, 0)), api.PlotLook{Bends: 1, Width: 4, Height: 1}},
		{"the first line slants", of(2, 0, 1, 0, 1), plot(at, line(0, 0, 2, 1, 4, 0), line(0, 0, 4, 0)), api.PlotLook{Bends: 1, Width: 4, Height: 1}},
		{"bends of several lines", of(2, 0, 1, 0, 1, 1, 1), plot(at, line(0, 0, 0, 1, 4, 1, 4, 0), line(0, 0, 4, 0), line(4, 0, 5, 0, 5, -1, 4, 0)), api.PlotLook{Bends: 4, Width: 5, Height: 2}},
		{"a node beyond the lines", of(3, 0, 1), plot(line(0, 0, 4, 0, -3, -8), line(0, 0, 4, 0)), api.PlotLook{Width: 7, Height: 8, Straight: true, Axis: true}},
		{"as wide and high as may be", two, plot(line(-edge, -edge, edge, edge), line(-edge, -edge, edge, edge)), api.PlotLook{Width: 2 * edge, Height: 2 * edge, Straight: true}},
	} {
		if look, err := Look(row.g, row.p); err != api.OK || look != row.want {
			t.Errorf("P11.3: %s: %v, %v, want %v", row.name, look, err, row.want)
		}
	}
}

// TestLookOfFlaws: what has a 4 to 8 is looked at all the same.
func TestLookOfFlaws(t *testing.T) {
	two := of(2, 0, 1)
	at := line(0, 0, 4, 0)
	for _, row := range []struct {
		name string
		code int
		g    api.Net
		p    api.Plot
		want api.PlotLook
	}{
		{"nodes at one point", 4, of(2), plot(line(2, 2, 2, 2)), api.PlotLook{Straight: true, Axis: true}},
		{"a line elsewhere", 5, two, plot(at, line(9, 9, 9, 7)), api.PlotLook{Width: 9, Height: 9, Straight: true, Axis: true}},
		{"back on itself", 6, two, plot(at, line(0, 0, 5, 0, 4, 0)), api.PlotLook{Bends: 1, Width: 5, Axis: true}},
		{"a point twice running", 6, two, plot(at, line(0, 0, 0, 0, 4, 0)), api.PlotLook{Bends: 1, Width: 4, Axis: true}},
		{"a loop without length", 6, of(1, 0, 0), plot(line(3, 3), line(3, 3, 3, 3)), api.PlotLook{Straight: true, Axis: true}},
		{"a node on a line", 7, of(3, 0, 1), plot(line(0, 0, 4, 0, 2, 0), line(0, 0, 4, 0)), api.PlotLook{Width: 4, Straight: true, Axis: true}},
		{"lines that cross", 8, of(4, 0, 1, 2, 3), plot(line(0, 0, 4, 4, 0, 4, 4, 0), line(0, 0, 4, 4), line(0, 4, 4, 0)), api.PlotLook{Width: 4, Height: 4, Straight: true}},
	} {
		list, _ := Check(row.g, row.p)
		if len(list) == 0 || list[0].Code != row.code {
			t.Errorf("P11.1: %s: %v", row.name, list)
		}
		if look, err := Look(row.g, row.p); err != api.OK || look != row.want {
			t.Errorf("P11.3: %s: %v, %v, want %v", row.name, look, err, row.want)
		}
	}
}

// seenOf is Look by its words, point by point.
func seenOf(p api.Plot) api.PlotLook {
	look := api.PlotLook{Straight: true, Axis: true}
	all := append([]api.Point(nil), p.At...)
	for _, l := range p.Lines {
		for i, at := range l {
			all = append(all, at)
			if i > 0 && i < len(l)-1 {
				look.Bends++
				look.Straight = false
			}
			if i > 0 && (at.X-l[i-1].X)*(at.Y-l[i-1].Y) != 0 {
				look.Axis = false
			}
		}
	}
	for _, a := range all {
		for _, b := range all {
			look.Width, look.Height = max(look.Width, a.X-b.X), max(look.Height, a.Y-b.Y)
		}
	}
	return look
}

func TestLookMany(t *testing.T) {
	r := rand.New(rand.NewSource(117))
	axis, bent, refused := 0, 0, 0
	for _, d := range []draw{{5, 4, 2, 6, 0}, {5, 2, 1, 2, 0}, {3, 1, 2, 3, 0}, {6, 4, 3, 12, 4}} {
		for range 2000 {
			g, p := drawn(r, d)
			look, err := Look(g, p)
			if list := byWords(g, p); len(list) > 0 && list[0].Code <= 3 {
				refused++
				if err != api.ErrShape || look != (api.PlotLook{}) {
					t.Fatalf("P11.3: %v, %v: %v, %v", g, p, look, err)
				}
				continue
			}
			if err != api.OK || look != seenOf(p) {
				t.Fatalf("P11.3: %v, %v: %v, %v, want %v", g, p, look, err, seenOf(p))
			}
			if look.Bends > 0 {
				bent++
			}
			if look.Axis && len(g.Edges) > 0 {
				axis++
			}
		}
	}
	if axis < 100 || bent < 100 || refused < 100 {
		t.Errorf("the plots are ill chosen: %d, %d, %d", axis, bent, refused)
	}
}
