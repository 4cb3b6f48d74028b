package rot

import (
	"math/rand"
	"slices"
	"testing"

	"tracery/api"
	"tracery/net"
)

func TestSub(t *testing.T) {
	g, r := example()
	loops := of(2, 0, 1, 1, 1, 1, 0)
	x := api.Rot{{5, 0}, {4, 3, 1, 2}}
	for _, row := range []struct {
		name string
		g    api.Net
		r    api.Rot
		keep []int
		sub  api.Net
		left api.Rot
		err  api.Errno
	}{
		{"all", g, api.Rot{{4, 0, 2}, {3, 1, 5}}, nums(0, 1, 2), g, r, api.OK},
		{"none", g, r, nil, of(2), api.Rot{nil, nil}, api.OK},
		{"two", g, r, nums(2, 0), of(2, 0, 1, 0, 1), api.Rot{{0, 2}, {1, 3}}, api.OK},
		{"another order", g, r, nums(1, 2, 0), g, api.Rot{{0, 2, 4}, {1, 5, 3}}, api.OK},
		{"two changed", g, r, nums(1, 0, 2), g, api.Rot{{0, 4, 2}, {1, 3, 5}}, api.OK},
		{"a loop", loops, x, nums(1), of(2, 1, 1), api.Rot{nil, {0, 1}}, api.OK},
		{"a loop ahead", loops, x, nums(1, 2), of(2, 1, 1, 1, 0), api.Rot{{3}, {0, 2, 1}}, api.OK},
		{"no edge of that number", g, r, nums(0, 3), api.Net{}, nil, api.ErrBounds},
		{"one below 0", g, r, nums(-1, 0), api.Net{}, nil, api.ErrBounds},
		{"one twice", g, r, nums(0, 0), api.Net{}, nil, api.ErrExists},
		{"one twice, then none", g, r, nums(1, 1, 9), api.Net{}, nil, api.ErrExists},
		{"none, then one twice", g, r, nums(9, 1, 1), api.Net{}, nil, api.ErrBounds},
		{"no rotation", g, r[:1], nums(0, 0), api.Net{}, nil, api.ErrRot},
		{"no net", of(-1), r, nums(0, 0), api.Net{}, nil, api.ErrArg},
		{"no node", of(0), nil, nil, of(0), nil, api.OK},
		{"no node, an edge", of(0), nil, nums(0), api.Net{}, nil, api.ErrBounds},
	} {
		sub, left, err := Sub(row.g, row.r, row.keep)
		if err != row.err || !net.Same(sub, row.sub) || !equal(left, row.left) {
			t.Errorf("P9.4: %s: %v, %v, %v", row.name, sub, left, err)
		}
	}
	for _, e := range strange() {
		if sub, left, err := Sub(g, r, nums(0, e)); err != api.ErrBounds || sub.N != 0 || len(sub.Edges) != 0 || len(left) != 0 {
			t.Errorf("P9.4: %d: %v, %v, %v", e, sub, left, err)
		}
	}
}

// leftOf is what is left of a list, by looking for each kept edge.
func leftOf(list, keep []int) []int {
	var left []int
	for _, h := range list {
		if i := slices.Index(keep, h/2); i >= 0 {
			left = append(left, 2*i+h%2)
		}
	}
	return left
}

// checkSub holds Sub against the chapter's words: what is left, Canon, of no greater genus.
func checkSub(t *testing.T, g api.Net, x api.Rot, keep []int) {
	t.Helper()
	sub, left, err := Sub(g, x, keep)
	want, e := net.Sub(g, keep)
	if err != e || !net.Same(sub, want) || May(sub, left) != api.OK {
		t.Fatalf("P9.4: Sub of %v by %v: %v, %v", g, keep, err, e)
	}
	canon, _ := Canon(sub, left)
	if !equal(canon, left) {
		t.Fatalf("P9.4: Sub is not Canon: %v", left)
	}
	for v, list := range x {
		if round := leftOf(list, keep); len(round) != len(left[v]) || len(round) < 100 && !sameRound(round, left[v]) {
			t.Fatalf("P9.4: Sub of %v by %v: %v", list, keep, left[v])
		}
	}
	genus, _ := Genus(g, x)
	if less, err := Genus(sub, left); err != api.OK || less > genus {
		t.Fatalf("what follows: Sub of genus %d has genus %d, %v", genus, less, err)
	}
}

// someOf is some of n numbers in any order.
func someOf(r *rand.Rand, n int) []int {
	return r.Perm(n)[:r.Intn(n+1)]
}

func TestSubMany(t *testing.T) {
	r := rand.New(rand.NewSource(97))
	for range 3000 {
		g := some(r, 6, 10)
		checkSub(t, g, shuffled(r, g), someOf(r, len(g.Edges)))
	}
	for _, g := range great(t) {
		checkSub(t, g, shuffled(r, g), someOf(r, len(g.Edges)))
	}
}

func TestMoved(t *testing.T) {
	g, r := example()
	row := of(3, 0, 1, 1, 2, 1, 1)
	x := api.Rot{{0}, {5, 2, 4, 1}, {3}}
	for _, c := range []struct {
		name  string
		g     api.Net
		r     api.Rot
		to    []int
		moved api.Net
		with  api.Rot
		err   api.Errno
	}{
		{"nothing", g, api.Rot{{4, 0, 2}, {5, 3, 1}}, nums(0, 1), g, r, api.OK},
		{"two changed", g, r, nums(1, 0), of(2, 1, 0, 1, 0, 1, 0), api.Rot{{1, 5, 3}, {0, 2, 4}}, api.OK},
		{"round", row, x, nums(1, 2, 0), of(3, 1, 2, 2, 0, 2, 2), api.Rot{{3}, {0}, {1, 5, 2, 4}}, api.OK},
		{"too few", g, r, nums(0), api.Net{}, nil, api.ErrBounds},
		{"too many", g, r, nums(0, 1, 2), api.Net{}, nil, api.ErrBounds},
		{"none", g, r, nil, api.Net{}, nil, api.ErrBounds},
		{"too great", g, r, nums(0, 2), api.Net{}, nil, api.ErrBounds},
		{"below 0", g, r, nums(-1, 1), api.Net{}, nil, api.ErrBounds},
		{"twice", g, r, nums(1, 1), api.Net{}, nil, api.ErrExists},
		{"no rotation", g, r[:1], nums(1, 1), api.Net{}, nil, api.ErrRot},
		{"no net", of(-1), r, nums(1, 1), api.Net{}, nil, api.ErrArg},
		{"no node", of(0), nil, nil, of(0), nil, api.OK},
		{"no node, a number", of(0), nil, nums(0), api.Net{}, nil, api.ErrBounds},
		{"nodes without edges", of(2), api.Rot{nil, nil}, nums(1, 0), of(2), api.Rot{nil, nil}, api.OK},
	} {
		moved, with, err := Moved(c.g, c.r, c.to)
		if err != c.err || !net.Same(moved, c.moved) || !equal(with, c.with) {
			t.Errorf("P9.4: %s: %v, %v, %v", c.name, moved, with, err)
		}
	}
	for _, v := range strange() {
		if moved, with, err := Moved(g, r, nums(0, v)); err != api.ErrBounds || moved.N != 0 || len(moved.Edges) != 0 || len(with) != 0 {
			t.Errorf("P9.4: %d: %v, %v, %v", v, moved, with, err)
		}
	}
}

// checkMoved: each list goes with its node, the faces stay; there and back is Canon.
func checkMoved(t *testing.T, g api.Net, x api.Rot, to []int) {
	t.Helper()
	moved, with, err := Moved(g, x, to)
	want, e := net.Moved(g, to)
	if err != api.OK || e != api.OK || !net.Same(moved, want) || May(moved, with) != api.OK {
		t.Fatalf("P9.4: Moved of %v by %v: %v, %v", g, to, err, e)
	}
	canon, _ := Canon(g, x)
	back := make([]int, len(to))
	for v, w := range to {
		back[w] = v
		if !slices.Equal(canon[v], with[w]) {
			t.Fatalf("P9.4: Moved: %v became %v", canon[v], with[w])
		}
	}
	before, _ := Faces(g, x)
	behind, _ := Faces(moved, with)
	if !equal(before, behind) {
		t.Fatalf("P9.4: Moved has other faces: %v, %v", before, behind)
	}
	again, home, err := Moved(moved, with, back)
	if err != api.OK || !net.Same(again, g) || !equal(home, canon) {
		t.Fatalf("P9.4: there and back: %v, %v, %v", again, home, err)
	}
}

func TestMovedMany(t *testing.T) {
	r := rand.New(rand.NewSource(98))
	for range 3000 {
		g := some(r, 6, 10)
		checkMoved(t, g, shuffled(r, g), r.Perm(g.N))
	}
	for _, g := range great(t) {
		checkMoved(t, g, shuffled(r, g), r.Perm(g.N))
	}
}
