package net

import (
	"math/rand"
	"slices"
	"testing"

	"tracery/api"
)

// upTo are the numbers 0 to n - 1.
func upTo(n int) []int {
	l := make([]int, n)
	for i := range l {
		l[i] = i
	}
	return l
}

func TestSub(t *testing.T) {
	for _, c := range []struct {
		keep []int
		want api.Net
	}{
		{[]int{3, 0}, of(3, 1, 2, 0, 1)},
		{nil, of(3)},
		{[]int{}, of(3)},
		{[]int{2}, of(3, 2, 2)},
		{[]int{3, 2, 1, 0}, of(3, 1, 2, 2, 2, 1, 0, 0, 1)},
		{upTo(4), example()},
	} {
		if s, e := Sub(example(), c.keep); !Same(s, c.want) || e != api.OK {
			t.Errorf("P3.2: Sub(g, %v): %v, %v", c.keep, s, e)
		}
	}
	full := sized(1024, 3072)
	if s, e := Sub(full, upTo(3072)); !Same(s, full) || e != api.OK {
		t.Errorf("P3.2: Sub of the greatest net: %v", e)
	}
	if s, e := Sub(api.Net{}, nil); !Same(s, api.Net{}) || e != api.OK {
		t.Errorf("P3.2: Sub of no node: %v, %v", s, e)
	}
}

// faulty are lists of numbers below 4 with a fault, and which is their first one.
func faulty() []struct {
	list []int
	want api.Errno
} {
	type row = struct {
		list []int
		want api.Errno
	}
	rows := []row{
		{[]int{0, 4}, api.ErrBounds},
		{[]int{4}, api.ErrBounds},
		{[]int{1, 1}, api.ErrExists},
		{[]int{0, 1, 2, 3, 0}, api.ErrExists},
		{[]int{0, 1, 2, 3, 4}, api.ErrBounds},
		{[]int{1, 1, 9}, api.ErrExists},
		{[]int{1, 9, 1}, api.ErrBounds},
		{[]int{9, 1, 1}, api.ErrBounds},
		{[]int{9, 9}, api.ErrBounds},
		{[]int{0, 0, -1}, api.ErrExists},
		{[]int{2, 0, 3, 0, -1}, api.ErrExists},
		{make([]int, 1<<20), api.ErrExists},
		{append(upTo(1<<20), 0), api.ErrBounds},
	}
	for _, x := range strange() {
		rows = append(rows, row{[]int{x}, api.ErrBounds}, row{[]int{0, x, 0}, api.ErrBounds}, row{[]int{x, x}, api.ErrBounds}, row{[]int{3, 3, x}, api.ErrExists})
	}
	return rows
}

func TestSubRefuses(t *testing.T) {
	for i, c := range faulty() {
		if s, e := Sub(example(), c.list); !Same(s, api.Net{}) || e != c.want {
			t.Errorf("P3.2: Sub by list %d: %v, %v, not %v", i, s, e, c.want)
		}
	}
	if s, e := Sub(of(3), []int{0}); !Same(s, api.Net{}) || e != api.ErrBounds {
		t.Errorf("P3.2: Sub of no edge: %v, %v", s, e)
	}
	if s, e := Sub(sized(1024, 3072), []int{3071, 3072}); !Same(s, api.Net{}) || e != api.ErrBounds {
		t.Errorf("P3.2: Sub by 3,072: %v, %v", s, e)
	}
}

func TestPart(t *testing.T) {
	for _, c := range []struct {
		nodes []int
		want  api.Net
		which []int
	}{
		{[]int{2, 1}, of(2, 0, 0, 1, 0), []int{2, 3}},
		{nil, api.Net{}, nil},
		{[]int{0}, of(1), nil},
		{[]int{2}, of(1, 0, 0), []int{2}},
		{[]int{1, 0}, of(2, 1, 0, 0, 1), []int{0, 1}},
		{[]int{0, 2}, of(2, 1, 1), []int{2}},
		{[]int{1, 2, 0}, of(3, 2, 0, 0, 2, 1, 1, 0, 1), []int{0, 1, 2, 3}},
		{upTo(3), example(), upTo(4)},
	} {
		if p, which, e := Part(example(), c.nodes); !Same(p, c.want) || !slices.Equal(which, c.which) || e != api.OK {
			t.Errorf("P3.2: Part(g, %v): %v, %v, %v", c.nodes, p, which, e)
		}
	}
	full := sized(1024, 3072)
	if p, which, e := Part(full, upTo(1024)); !Same(p, full) || !slices.Equal(which, upTo(3072)) || e != api.OK {
		t.Errorf("P3.2: Part of the greatest net: %v", e)
	}
}

func TestPartRefuses(t *testing.T) {
	four := of(4, 0, 1, 2, 3)
	for i, c := range faulty() {
		if p, which, e := Part(four, c.list); !Same(p, api.Net{}) || len(which) != 0 || e != c.want {
			t.Errorf("P3.2: Part by list %d: %v, %v, %v, not %v", i, p, which, e, c.want)
		}
	}
	if p, which, e := Part(api.Net{}, []int{0}); !Same(p, api.Net{}) || len(which) != 0 || e != api.ErrBounds {
		t.Errorf("P3.2: Part of no node: %v, %v, %v", p, which, e)
	}
	if p, which, e := Part(sized(1024, 3072), []int{1023, 1024}); !Same(p, api.Net{}) || len(which) != 0 || e != api.ErrBounds {
		t.Errorf("P3.2: Part by 1,024: %v, %v, %v", p, which, e)
	}
}

// TestPartsByTheWords holds Sub and Part of many nets against the chapter's words.
func TestPartsByTheWords(t *testing.T) {
	r := rand.New(rand.NewSource(2))
	for range 3000 {
		g := some(r)
		keep := r.Perm(len(g.Edges))[:r.Intn(len(g.Edges)+1)]
		want := api.Net{N: g.N}
		for _, e := range keep {
			want.Edges = append(want.Edges, g.Edges[e])
		}
		if s, e := Sub(g, keep); !Same(s, want) || e != api.OK {
			t.Fatalf("P3.2: Sub(%v, %v): %v, %v", g, keep, s, e)
		}
		nodes := r.Perm(g.N)[:r.Intn(g.N+1)]
		want = api.Net{N: len(nodes)}
		var edges []int
		for e, ends := range g.Edges {
			u, v := slices.Index(nodes, ends[0]), slices.Index(nodes, ends[1])
			if u >= 0 && v >= 0 {
				want.Edges, edges = append(want.Edges, [2]int{u, v}), append(edges, e)
			}
		}
		if p, which, e := Part(g, nodes); !Same(p, want) || !slices.Equal(which, edges) || e != api.OK {
			t.Fatalf("P3.2: Part(%v, %v): %v, %v, %v", g, nodes, p, which, e)
		}
	}
}

func TestBare(t *testing.T) {
	for _, c := range []struct {
		g, want api.Net
		left    []int
	}{
		{example(), of(3, 0, 1, 1, 2), []int{0, 3}},
		{api.Net{}, api.Net{}, nil},
		{of(4), of(4), nil},
		{of(1, 0, 0, 0, 0), of(1), nil},
		{of(2, 1, 0, 0, 1, 1, 0), of(2, 1, 0), []int{0}},
		{of(3, 2, 2, 2, 1, 0, 2, 1, 2, 2, 0), of(3, 2, 1, 0, 2), []int{1, 2}},
		{of(1024, 1023, 1023, 1023, 0), of(1024, 1023, 0), []int{1}},
		{sized(1, 3072), of(1), nil},
	} {
		if b, left, e := Bare(c.g); !Same(b, c.want) || !slices.Equal(left, c.left) || e != api.OK {
			t.Errorf("P3.6: Bare(%v): %v, %v, %v", c.g, b, left, e)
		}
	}
}

func TestBareByTheWords(t *testing.T) {
	r := rand.New(rand.NewSource(3))
	for range 3000 {
		g := some(r)
		var want []int
		for e, ends := range g.Edges {
			if ends[0] != ends[1] && !repeatedAt(g, e) {
				want = append(want, e)
			}
		}
		b, left, e := Bare(g)
		s, _ := Sub(g, left)
		look, _ := Look(b)
		if !slices.Equal(left, want) || !Same(b, s) || !look.Simple || e != api.OK {
			t.Fatalf("P3.6: Bare(%v): %v, %v, %v", g, b, left, e)
		}
	}
}
