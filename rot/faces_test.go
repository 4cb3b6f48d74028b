package rot

import (
	"math/rand"
	"slices"
	"testing"

	"tracery/api"
	"tracery/maker"
	"tracery/walk"
)

func TestFaces(t *testing.T) {
	g, r := example()
	first, _ := First(g)
	for _, row := range []struct {
		name  string
		g     api.Net
		r     api.Rot
		faces [][]int
		genus int
	}{
		{"the example", g, r, [][]int{{0, 5}, {1, 2}, {3, 4}}, 0},
		{"the example, First", g, first, [][]int{{0, 3, 4, 1, 2, 5}}, 1},
		{"no node", of(0), nil, nil, 0},
		{"one node", of(1), api.Rot{nil}, [][]int{nil}, 0},
		{"nodes without edges", of(3), api.Rot{nil, nil, nil}, [][]int{nil, nil, nil}, 0},
		{"an edge", of(2, 0, 1), api.Rot{{0}, {1}}, [][]int{{0, 1}}, 0},
		{"a loop", of(1, 0, 0), api.Rot{{0, 1}}, [][]int{{0}, {1}}, 0},
		{"a loop beside nodes", of(3, 1, 1), api.Rot{nil, {1, 0}, nil}, [][]int{{0}, {1}, nil, nil}, 0},
		{"loops side by side", of(1, 0, 0, 0, 0), api.Rot{{0, 1, 2, 3}}, [][]int{{0, 2}, {1}, {3}}, 0},
		{"loops through one another", of(1, 0, 0, 0, 0), api.Rot{{0, 2, 1, 3}}, [][]int{{0, 3, 1, 2}}, 1},
		{"a cycle", of(3, 0, 1, 1, 2, 2, 0), api.Rot{{0, 5}, {1, 2}, {3, 4}}, [][]int{{0, 2, 4}, {1, 5, 3}}, 0},
		{"a row", of(3, 0, 1, 1, 2), api.Rot{{0}, {2, 1}, {3}}, [][]int{{0, 2, 3, 1}}, 0},
		{"a star", of(4, 3, 0, 3, 1, 2, 3), api.Rot{{1}, {3}, {4}, {2, 0, 5}}, [][]int{{0, 1, 5, 4, 2, 3}}, 0},
		{"two edges apart", of(5, 3, 4, 0, 2), api.Rot{{2}, nil, {3}, {0}, {1}}, [][]int{{0, 1}, {2, 3}, nil}, 0},
		{"two loops apart", of(2, 1, 1, 0, 0), api.Rot{{2, 3}, {1, 0}}, [][]int{{0}, {1}, {2}, {3}}, 0},
		{"two of genus 1", of(2, 0, 0, 1, 1, 0, 0, 1, 1), api.Rot{{0, 4, 1, 5}, {6, 2, 7, 3}}, [][]int{{0, 5, 1, 4}, {2, 6, 3, 7}}, 2},
	} {
		faces, err := Faces(row.g, row.r)
		genus, other := Genus(row.g, row.r)
		if err != api.OK || other != api.OK || !equal(faces, row.faces) || genus != row.genus {
			t.Errorf("P9.3: %s: %v, %d, want %v, %d", row.name, faces, genus, row.faces, row.genus)
		}
	}
	of, err := Of(g, r)
	if err != api.OK || !slices.Equal(of, nums(0, 1, 1, 2, 2, 0)) {
		t.Errorf("P9.3: %v, %v", of, err)
	}
}

// placesIn are the half-edges' places in their lists, so that great lists are looked through once.
func placesIn(x api.Rot, count int) []int {
	at := make([]int, count)
	for _, list := range x {
		for i, h := range list {
			at[h] = i
		}
	}
	return at
}

// checkFaces holds Faces and Of against the chapter's words, and answers the faces.
func checkFaces(t *testing.T, g api.Net, x api.Rot) [][]int {
	t.Helper()
	faces, err := Faces(g, x)
	number, other := Of(g, x)
	if err != api.OK || other != api.OK || len(number) != 2*len(g.Edges) {
		t.Fatalf("P9.3: %v, %v: %d numbers", err, other, len(number))
	}
	at, seen := placesIn(x, len(number)), make([]int, len(number))
	least, empty := -1, 0
	for i, face := range faces {
		if len(face) == 0 {
			empty++
			continue
		}
		if empty > 0 || face[0] <= least || slices.Min(face) != face[0] {
			t.Fatalf("P9.3: the face %d is out of order: %v", i, face)
		}
		least = face[0]
		for k, h := range face {
			seen[h]++
			list := x[g.Edges[h/2][1-h%2]]
			if number[h] != i || list[(at[h^1]+1)%len(list)] != face[(k+1)%len(face)] {
				t.Fatalf("P9.3: %v of %v: %v, %v", g, x, face, number)
			}
		}
	}
	isolated := 0
	for _, list := range x {
		if len(list) == 0 {
			isolated++
		}
	}
	if isolated != empty || slices.ContainsFunc(seen, func(n int) bool { return n != 1 }) {
		t.Fatalf("P9.3: %d empty faces of %d isolated nodes; seen %v", empty, isolated, seen)
	}
	return faces
}

func lengths(faces [][]int) []int {
	var list []int
	for _, face := range faces {
		list = append(list, len(face))
	}
	slices.Sort(list)
	return list
}

// checkGenus holds Genus against Euler's count; the mirror has the same, and faces of the same lengths.
func checkGenus(t *testing.T, g api.Net, x api.Rot) {
	t.Helper()
	faces := checkFaces(t, g, x)
	_, parts, _ := walk.Parts(g)
	genus, err := Genus(g, x)
	if err != api.OK || genus < 0 || g.N-len(g.Edges)+len(faces) != 2*parts-2*genus {
		t.Fatalf("P9.3: %v of %v: genus %d", g, x, genus)
	}
	mirror, _ := Mirror(g, x)
	others := checkFaces(t, g, mirror)
	other, err := Genus(g, mirror)
	if err != api.OK || other != genus || !slices.Equal(lengths(faces), lengths(others)) {
		t.Fatalf("what follows: Mirror of %v has genus %d, not %d", x, other, genus)
	}
	canon, _ := Canon(g, x)
	if again := checkFaces(t, g, canon); !equal(again, faces) {
		t.Fatalf("Words: the faces hang on where lists begin: %v, %v", again, faces)
	}
}

func TestFacesMany(t *testing.T) {
	r := rand.New(rand.NewSource(96))
	for range 3000 {
		g := some(r, 7, 10)
		checkGenus(t, g, shuffled(r, g))
	}
	for _, g := range great(t) {
		checkGenus(t, g, rising(g))
		checkGenus(t, g, shuffled(r, g))
	}
}

// allRotations hands on each rotation of g once, the first half-edge of each list fixed.
func allRotations(g api.Net, each func(x api.Rot)) {
	x := rising(g)
	var at func(v, i int)
	at = func(v, i int) {
		switch {
		case v == g.N:
			each(x)
		case i >= len(x[v]):
			at(v+1, 1)
		default:
			for k := i; k < len(x[v]); k++ {
				x[v][i], x[v][k] = x[v][k], x[v][i]
				at(v, i+1)
				x[v][i], x[v][k] = x[v][k], x[v][i]
			}
		}
	}
	at(0, 1)
}

// TestAllRotations: how many rotations of known nets have which genus.
func TestAllRotations(t *testing.T) {
	must := made(t)
	for _, row := range []struct {
		name string
		g    api.Net
		many []int
	}{
		{"K4", must(maker.Complete(4)), nums(2, 14)},
		{"K5", must(maker.Complete(5)), nums(0, 462, 4974, 2340)},
		{"K3,3", must(maker.Two(3, 3)), nums(0, 40, 24)},
		{"three parallel edges", must(maker.Bond(3)), nums(2, 2)},
		{"two loops of a node", of(1, 0, 0, 0, 0), nums(4, 2)},
		{"a cycle", must(maker.Cycle(5)), nums(1)},
	} {
		got := make([]int, len(row.many))
		allRotations(row.g, func(x api.Rot) {
			genus, err := Genus(row.g, x)
			if err != api.OK || genus >= len(got) {
				t.Fatalf("P9.3: %s, %v: %d, %v", row.name, x, genus, err)
			}
			got[genus]++
		})
		if !slices.Equal(got, row.many) {
			t.Errorf("P9.3: %s: %v, want %v", row.name, got, row.many)
		}
	}
}

// squares is a net of rows and columns, each node's half-edges up, right, down and left.
func squares(side int) (api.Net, api.Rot) {
	g := api.Net{N: side * side}
	four := make([][4]int, g.N)
	for v := range four {
		four[v] = [4]int{-1, -1, -1, -1}
	}
	join := func(a, b, way int) { // way^2 is the way back
		four[a][way], four[b][way^2] = 2*len(g.Edges), 2*len(g.Edges)+1
		g.Edges = append(g.Edges, [2]int{a, b})
	}
	for v := range g.N {
		if v%side+1 < side {
			join(v, v+1, 1)
		}
		if v+side < g.N {
			join(v, v+side, 2)
		}
	}
	x := make(api.Rot, g.N)
	for v, list := range four {
		for _, h := range list {
			if h >= 0 {
				x[v] = append(x[v], h)
			}
		}
	}
	return g, x
}

func TestGenusGreat(t *testing.T) {
	g, x := squares(32)
	faces := checkFaces(t, g, x)
	genus, err := Genus(g, x)
	if err != api.OK || genus != 0 || len(faces) != 31*31+1 || lengths(faces)[31*31] != 4*31 || lengths(faces)[0] != 4 {
		t.Errorf("P9.3: the squares: %d, %d faces, %v", genus, len(faces), err)
	}
	bond := made(t)(maker.Bond(3072))
	first, _ := First(bond)
	about := api.Rot(deep(first))
	slices.Reverse(about[1])
	a, _ := Genus(bond, first)
	b, _ := Genus(bond, about)
	if a != 1535 || b != 0 {
		t.Errorf("P9.3: parallel edges: %d, %d", a, b)
	}
	row := made(t)(maker.Path(1024))
	first, _ = First(row)
	if faces := checkFaces(t, row, first); len(faces) != 1 || len(faces[0]) != 2*1023 {
		t.Errorf("P9.3: a row: %d faces", len(faces))
	}
}
