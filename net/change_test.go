package net

import (
	"math"
	"math/rand"
	"slices"
	"testing"

	"tracery/api"
)

func TestSplit(t *testing.T) {
	for _, c := range []struct {
		g    api.Net
		e    int
		want api.Net
	}{
		{example(), 3, of(4, 0, 1, 1, 0, 2, 2, 1, 3, 3, 2)},
		{example(), 0, of(4, 0, 3, 1, 0, 2, 2, 1, 2, 3, 1)},
		{example(), 1, of(4, 0, 1, 1, 3, 2, 2, 1, 2, 3, 0)},
		{example(), 2, of(4, 0, 1, 1, 0, 2, 3, 1, 2, 3, 2)},
		{of(1, 0, 0), 0, of(2, 0, 1, 1, 0)},
	} {
		if s, e := Split(c.g, c.e); !Same(s, c.want) || e != api.OK {
			t.Errorf("P3.3: Split(%v, %d): %v, %v", c.g, c.e, s, e)
		}
	}
	if s, e := Split(sized(1023, 3071), 3070); s.N != 1024 || len(s.Edges) != 3072 || !May(s) || e != api.OK {
		t.Errorf("P3.3: Split up to the greatest: N %d, %d edges, %v", s.N, len(s.Edges), e)
	}
}

func TestSplitRefuses(t *testing.T) {
	refused := func(g api.Net, e int, want api.Errno) {
		t.Helper()
		if s, err := Split(g, e); !Same(s, api.Net{}) || err != want {
			t.Errorf("P3.3: Split of N %d with %d edges at %d: %v, %v", g.N, len(g.Edges), e, s, err)
		}
	}
	for _, e := range strange() {
		refused(example(), e, api.ErrBounds)
		refused(sized(1024, 3072), e, api.ErrBounds)
	}
	refused(example(), 4, api.ErrBounds)
	refused(api.Net{}, 0, api.ErrBounds)
	refused(of(1024), 0, api.ErrBounds)
	refused(sized(1024, 1), 0, api.ErrLimit)
	refused(sized(1, 3072), 3071, api.ErrLimit)
	refused(sized(1024, 3072), 0, api.ErrLimit)
	refused(sized(1024, 3071), 0, api.ErrLimit)
	refused(sized(1023, 3072), 0, api.ErrLimit)
}

func TestMerge(t *testing.T) {
	for _, c := range []struct {
		g      api.Net
		u, v   int
		want   api.Net
		became []int
	}{
		{example(), 1, 0, of(2, 0, 0, 0, 0, 1, 1, 0, 1), []int{0, 0, 1}},
		{example(), 0, 1, of(2, 0, 0, 0, 0, 1, 1, 0, 1), []int{0, 0, 1}},
		{example(), 2, 0, of(2, 1, 0, 0, 1, 1, 1, 0, 1), []int{1, 0, 1}},
		{example(), 0, 2, of(2, 0, 1, 1, 0, 0, 0, 1, 0), []int{0, 1, 0}},
		{example(), 2, 1, of(2, 0, 1, 1, 0, 1, 1, 1, 1), []int{0, 1, 1}},
		{of(2), 0, 1, of(1), []int{0, 0}},
		{of(4, 3, 1), 3, 1, of(3, 2, 2), []int{0, 2, 1, 2}},
	} {
		if m, became, e := Merge(c.g, c.u, c.v); !Same(m, c.want) || !slices.Equal(became, c.became) || e != api.OK {
			t.Errorf("P3.4: Merge(%v, %d, %d): %v, %v, %v", c.g, c.u, c.v, m, became, e)
		}
	}
	if m, became, e := Merge(sized(1024, 3072), 1023, 0); m.N != 1023 || len(m.Edges) != 3072 || !May(m) || len(became) != 1024 || became[0] != 1022 || e != api.OK {
		t.Errorf("P3.4: Merge of the greatest net: N %d, %v", m.N, e)
	}
}

func TestMergeRefuses(t *testing.T) {
	refused := func(g api.Net, u, v int, want api.Errno) {
		t.Helper()
		if m, became, e := Merge(g, u, v); !Same(m, api.Net{}) || len(became) != 0 || e != want {
			t.Errorf("P3.4: Merge(%v, %d, %d): %v, %v, %v", g, u, v, m, became, e)
		}
	}
	for _, x := range append(strange(), 3, 4) {
		refused(example(), x, 0, api.ErrBounds)
		refused(example(), 0, x, api.ErrBounds)
		refused(example(), x, x, api.ErrBounds)
	}
	refused(api.Net{}, 0, 0, api.ErrBounds)
	refused(of(1), 0, 0, api.ErrArg)
	for v := range 3 {
		refused(example(), v, v, api.ErrArg)
	}
}

// TestMergeByTheWords: a node that was above v is one less, v is where u is, and each end went where its node went.
func TestMergeByTheWords(t *testing.T) {
	r := rand.New(rand.NewSource(4))
	for range 3000 {
		g := some(r)
		if g.N < 2 {
			continue
		}
		two := r.Perm(g.N)
		u, v := two[0], two[1]
		left := slices.DeleteFunc(upTo(g.N), func(w int) bool { return w == v })
		want := api.Net{N: g.N - 1}
		into := func(w int) int {
			if w == v {
				w = u
			}
			return slices.Index(left, w)
		}
		for _, ends := range g.Edges {
			want.Edges = append(want.Edges, [2]int{into(ends[0]), into(ends[1])})
		}
		m, became, e := Merge(g, u, v)
		if !Same(m, want) || len(became) != g.N || e != api.OK {
			t.Fatalf("P3.4: Merge(%v, %d, %d): %v, %v, %v", g, u, v, m, became, e)
		}
		for w := range became {
			if became[w] != into(w) {
				t.Fatalf("P3.4: Merge(%v, %d, %d): %v", g, u, v, became)
			}
		}
	}
}

func TestJoin(t *testing.T) {
	for _, c := range []struct{ a, b, want api.Net }{
		{of(1), of(2, 0, 1), of(3, 1, 2)},
		{of(2, 0, 1), of(1), of(3, 0, 1)},
		{example(), api.Net{}, example()},
		{api.Net{}, example(), example()},
		{api.Net{}, api.Net{}, api.Net{}},
		{of(2, 1, 0), of(2, 1, 0, 0, 0), of(4, 1, 0, 3, 2, 2, 2)},
		{example(), example(), of(6, 0, 1, 1, 0, 2, 2, 1, 2, 3, 4, 4, 3, 5, 5, 4, 5)},
		{sized(1024, 3072), api.Net{}, sized(1024, 3072)},
		{api.Net{}, sized(1024, 3072), sized(1024, 3072)},
		{of(1023), of(1, 0, 0), of(1024, 1023, 1023)},
	} {
		if j, e := Join(c.a, c.b); !Same(j, c.want) || e != api.OK {
			t.Errorf("P3.5: Join(%v, %v): %v, %v", c.a, c.b, j, e)
		}
	}
	if j, e := Join(sized(512, 1536), sized(512, 1536)); j.N != 1024 || len(j.Edges) != 3072 || !May(j) || e != api.OK {
		t.Errorf("P3.5: Join up to the greatest: N %d, %d edges, %v", j.N, len(j.Edges), e)
	}
}

func TestJoinRefuses(t *testing.T) {
	for _, c := range [][2]api.Net{
		{of(1024), of(1)}, {of(512), of(513)}, {of(1024), of(1024)},
		{sized(1, 3072), of(1, 0, 0)}, {sized(1, 1536), sized(1, 1537)}, {sized(1024, 3072), sized(1024, 3072)},
	} {
		for _, p := range [][2]api.Net{{c[0], c[1]}, {c[1], c[0]}} {
			if j, e := Join(p[0], p[1]); !Same(j, api.Net{}) || e != api.ErrLimit {
				t.Errorf("P3.5: Join of N %d and %d: %v, %v", p[0].N, p[1].N, j, e)
			}
		}
	}
}

func TestMoved(t *testing.T) {
	for _, c := range []struct {
		g    api.Net
		to   []int
		want api.Net
	}{
		{example(), []int{2, 0, 1}, of(3, 2, 0, 0, 2, 1, 1, 0, 1)},
		{example(), []int{0, 1, 2}, example()},
		{api.Net{}, nil, api.Net{}},
		{api.Net{}, []int{}, api.Net{}},
		{of(1, 0, 0), []int{0}, of(1, 0, 0)},
		{of(2, 0, 1), []int{1, 0}, of(2, 1, 0)},
		{sized(1024, 3072), upTo(1024), sized(1024, 3072)},
	} {
		if m, e := Moved(c.g, c.to); !Same(m, c.want) || e != api.OK {
			t.Errorf("P3.5: Moved(%v, %v): %v, %v", c.g, c.to, m, e)
		}
	}
}

func TestMovedRefuses(t *testing.T) {
	refused := func(g api.Net, want api.Errno, to ...int) {
		t.Helper()
		if m, e := Moved(g, to); !Same(m, api.Net{}) || e != want {
			t.Errorf("P3.5: Moved(%v, %v): %v, %v", g, to, m, e)
		}
	}
	refused(example(), api.ErrBounds)
	refused(example(), api.ErrBounds, 0, 1)
	refused(example(), api.ErrBounds, 0, 1, 2, 3)
	refused(example(), api.ErrBounds, 0, 1, 2, 0)
	refused(example(), api.ErrBounds, 1, 1)
	refused(example(), api.ErrBounds, 0, 0, 0, 0)
	refused(api.Net{}, api.ErrBounds, 0)
	refused(example(), api.ErrExists, 0, 0, 1)
	refused(example(), api.ErrExists, 0, 1, 0)
	refused(example(), api.ErrExists, 2, 2, 2)
	for _, x := range append(strange(), 3, 4) {
		refused(example(), api.ErrBounds, 0, 1, x)
		refused(example(), api.ErrBounds, x, 1, 0)
		refused(example(), api.ErrBounds, x, 0, 0)
		// P0.2: ErrBounds is named first, so it counts wherever it stands
		refused(example(), api.ErrBounds, 0, 0, x)
		refused(example(), api.ErrBounds, x, x, x)
	}
	refused(sized(1024, 3072), api.ErrBounds, append(upTo(1023), 1024)...)
	refused(sized(1024, 3072), api.ErrExists, append(upTo(1023), 1022)...)
	refused(example(), api.ErrBounds, make([]int, 1<<20)...)
}

// TestChangesByTheWords holds Split, Join and Moved of many nets against the chapter's words, and what follows from them.
func TestChangesByTheWords(t *testing.T) {
	r := rand.New(rand.NewSource(5))
	for range 3000 {
		a, b := some(r), some(r)
		for e, ends := range a.Edges {
			s, err := Split(a, e)
			if err != api.OK || s.N != a.N+1 || len(s.Edges) != len(a.Edges)+1 || s.Edges[e] != [2]int{ends[0], a.N} || s.Edges[len(a.Edges)] != [2]int{a.N, ends[1]} {
				t.Fatalf("P3.3: Split(%v, %d): %v, %v", a, e, s, err)
			}
			s.Edges[e] = ends
			if !slices.Equal(s.Edges[:len(a.Edges)], a.Edges) {
				t.Fatalf("P3.3: Split(%v, %d) changes others: %v", a, e, s)
			}
		}
		j, e := Join(a, b)
		first, which, _ := Part(j, upTo(a.N))
		if e != api.OK || !Same(first, a) || !slices.Equal(which, upTo(len(a.Edges))) {
			t.Fatalf("P3.5: Join(%v, %v): %v, %v", a, b, j, e)
		}
		behind := make([]int, b.N)
		for v := range behind {
			behind[v] = a.N + v
		}
		if second, _, e := Part(j, behind); j.N != a.N+b.N || len(j.Edges) != len(a.Edges)+len(b.Edges) || !Same(second, b) || e != api.OK {
			t.Fatalf("P3.5: Join(%v, %v): %v", a, b, j)
		}
		to := r.Perm(a.N)
		back := make([]int, a.N)
		for v, w := range to {
			back[w] = v
		}
		m, e := Moved(a, to)
		for i, ends := range a.Edges {
			if m.Edges[i] != [2]int{to[ends[0]], to[ends[1]]} {
				t.Fatalf("P3.5: Moved(%v, %v): %v", a, to, m)
			}
		}
		if again, e2 := Moved(m, back); !Same(again, a) || e != api.OK || e2 != api.OK {
			t.Fatalf("what follows: Moved(%v, %v) and back: %v", a, to, again)
		}
	}
}

// TestWrongNets: each call answers ErrArg and zero values of a net that may not be, ahead of any other error.
func TestWrongNets(t *testing.T) {
	good := example()
	numbers := []int{0, 1, -1, 3, math.MinInt, math.MaxInt}
	for i, g := range wrong() {
		check := func(name string, e api.Errno, zero bool) {
			t.Helper()
			if e != api.ErrArg || !zero {
				t.Errorf("P3: %s of wrong net %d (N %d, %d edges): %v, zero values %v", name, i, g.N, len(g.Edges), e, zero)
			}
		}
		net := func(n api.Net) bool { return n.N == 0 && len(n.Edges) == 0 }
		degrees, e := Degrees(g)
		check("Degrees", e, len(degrees) == 0)
		look, e := Look(g)
		check("Look", e, look == api.NetLook{})
		b, left, e := Bare(g)
		check("Bare", e, net(b) && len(left) == 0)
		for _, x := range numbers {
			out, e := Out(g, x)
			check("Out", e, len(out) == 0)
			s, e := Split(g, x)
			check("Split", e, net(s))
			for _, y := range numbers {
				m, became, e := Merge(g, x, y)
				check("Merge", e, net(m) && len(became) == 0)
			}
		}
		for _, l := range [][]int{nil, {}, {0}, {0, 0}, {-1}, {0, 1, 2, 3}, {0, 0, 9, 9}, {math.MaxInt}} {
			s, e := Sub(g, l)
			check("Sub", e, net(s))
			p, which, e := Part(g, l)
			check("Part", e, net(p) && len(which) == 0)
			m, e := Moved(g, l)
			check("Moved", e, net(m))
		}
		for _, p := range [][2]api.Net{{g, good}, {good, g}, {g, g}, {g, sized(1024, 3072)}, {sized(1024, 3072), g}} {
			j, e := Join(p[0], p[1])
			check("Join", e, net(j))
		}
	}
}
