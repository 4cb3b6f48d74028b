package maker

import (
	"slices"
	"testing"

	"tracery/api"
	"tracery/net"
)

// TestOrder holds the edges of each kind, one by one, against the chapter's words.
func TestOrder(t *testing.T) {
	for _, n := range []int{1, 2, 3, 4, 9, 40, 77, 78} {
		g, _ := Complete(n)
		if want := listed(n, n, func(u, v int) bool { return u < v }, 0); !slices.Equal(g.Edges, want) {
			t.Errorf("P5.1: Complete(%d): %v", n, g.Edges)
		}
	}
	for _, c := range [][2]int{{1, 1}, {1, 9}, {9, 1}, {5, 8}, {48, 64}, {64, 48}, {3, 1021}, {1021, 3}} {
		g, _ := Two(c[0], c[1])
		if want := listed(c[0], c[1], func(u, v int) bool { return true }, c[0]); !slices.Equal(g.Edges, want) {
			t.Errorf("P5.1: Two(%d, %d): %v", c[0], c[1], g.Edges)
		}
	}
	for _, c := range [][2]int{{1, 1}, {1, 9}, {9, 1}, {5, 8}, {8, 5}, {32, 32}, {2, 512}, {512, 2}, {1024, 1}, {1, 1024}} {
		g, _ := Grid(c[0], c[1])
		if !slices.Equal(g.Edges, gridByWords(c[0], c[1])) {
			t.Errorf("P5.1: Grid(%d, %d): %v", c[0], c[1], g.Edges)
		}
	}
	for _, n := range []int{1, 2, 3, 4, 5, 100, 511, 512, 1023, 1024} {
		path, _ := Path(n)
		cycle, _ := Cycle(n)
		if !slices.Equal(path.Edges, ring(0, n)[:n-1]) || !slices.Equal(cycle.Edges, ring(0, n)) {
			t.Errorf("P5.1: Path(%d) or Cycle(%d): %v, %v", n, n, path.Edges, cycle.Edges)
		}
		bond, _ := Bond(n)
		if want := slices.Repeat([][2]int{{0, 1}}, n); !slices.Equal(bond.Edges, want) {
			t.Errorf("P5.1: Bond(%d): %v", n, bond.Edges)
		}
		if wheel, e := Wheel(n); e == api.OK && !slices.Equal(wheel.Edges, slices.Concat(ring(0, n), spokes(n, n, 0, 1))) {
			t.Errorf("P5.1: Wheel(%d): %v", n, wheel.Edges)
		}
		if prism, e := Prism(n); e == api.OK && !slices.Equal(prism.Edges, slices.Concat(ring(0, n), ring(n, n), rungs(n))) {
			t.Errorf("P5.1: Prism(%d): %v", n, prism.Edges)
		}
	}
}

// listed: the edges (u, v + shift) with u below a and v below b that are asked for, by the first end, then the second.
func listed(a, b int, asked func(u, v int) bool, shift int) [][2]int {
	var list [][2]int
	for u := range a {
		for v := range b {
			if asked(u, v) {
				list = append(list, [2]int{u, v + shift})
			}
		}
	}
	return list
}

func ring(first, n int) [][2]int {
	list := make([][2]int, n)
	for i := range list {
		list[i] = [2]int{first + i, first + (i+1)%n}
	}
	return list
}

func spokes(n, hub, first, step int) [][2]int {
	list := make([][2]int, n)
	for i := range list {
		list[i] = [2]int{hub, first + i*step}
	}
	return list
}

func rungs(n int) [][2]int {
	list := make([][2]int, n)
	for i := range list {
		list[i] = [2]int{i, n + i}
	}
	return list
}

func gridByWords(w, h int) [][2]int {
	node := func(x, y int) int { return y*w + x }
	var list [][2]int
	for y := range h {
		for x := range w {
			if x+1 < w {
				list = append(list, [2]int{node(x, y), node(x+1, y)})
			}
			if y+1 < h {
				list = append(list, [2]int{node(x, y), node(x, y+1)})
			}
		}
	}
	return list
}

// TestExamples: the chapter's rows.
func TestExamples(t *testing.T) {
	cycle, e1 := Cycle(3)
	grid, e2 := Grid(2, 2)
	path, e3 := Path(0)
	if !net.Same(cycle, of(3, 0, 1, 1, 2, 2, 0)) || !net.Same(grid, of(4, 0, 1, 0, 2, 1, 3, 2, 3)) || !net.Same(path, api.Net{}) || e1 != api.OK || e2 != api.OK || e3 != api.ErrArg {
		t.Errorf("first row: %v, %v, %v", cycle, grid, path)
	}
	none, e1 := Complete(79)
	most, e2 := Complete(78)
	if !net.Same(none, api.Net{}) || e1 != api.ErrLimit || most.N != 78 || len(most.Edges) != 3003 || e2 != api.OK {
		t.Errorf("second row: %v, %v, %v", none, e1, e2)
	}
	s := uint64(1442695040888963407)
	first := int(s >> 33 % 5)
	s = s*6364136223846793005 + 1442695040888963407
	if g, e := Random(5, 1, 0); !net.Same(g, of(5, first, int(s>>33%5))) || e != api.OK {
		t.Errorf("third row: %v, %v", g, e)
	}
}

// TestNewMemory: the same call answers the same again, whatever was written into what it answered before.
func TestNewMemory(t *testing.T) {
	for _, c := range ones() {
		for _, n := range []int{c.least, c.least + 4, c.most} {
			first, _ := c.ask(n)
			second, _ := c.ask(n)
			kept := slices.Clone(second.Edges)
			if !net.Same(first, second) {
				t.Errorf("P0.5: %s at %d answers otherwise the second time", c.name, n)
			}
			for i := range first.Edges[:cap(first.Edges)] {
				first.Edges[:cap(first.Edges)][i] = [2]int{-7, -7}
			}
			_ = append(first.Edges, [2]int{-8, -8})
			third, e := c.ask(n)
			if !slices.Equal(second.Edges, kept) || !net.Same(second, third) || e != api.OK {
				t.Errorf("P0.3: %s at %d: what was written into one answer is to be seen in another", c.name, n)
			}
		}
	}
}

// TestWhatFollows: which kinds are simple.
func TestWhatFollows(t *testing.T) {
	for _, c := range ones() {
		for n := c.least; n <= min(c.most, c.least+30); n++ {
			g, _ := c.ask(n)
			look, e := net.Look(g)
			simple := true
			switch c.name {
			case "Cycle":
				simple = n > 2
			case "Bond":
				simple = n == 1
			case "Random of n nodes", "Random of m edges":
				simple = look.Simple
			}
			if look.Simple != simple || e != api.OK {
				t.Errorf("what follows: %s at %d: %v, %v", c.name, n, look, e)
			}
		}
	}
}
