package glue

import (
	"cmp"
	"math"
	"slices"
	"strconv"
	"testing"

	"tracery/api"
	"tracery/net"
	"tracery/sepa"
	"tracery/spqr"
)

// fault is what the words of the chapter have against a list of parts, "" if it may be.
func fault(ps []api.Piece) string {
	for _, look := range []func(ps []api.Piece) string{faultOfParts, faultOfTwins, faultOfTree, faultOfNumbers, faultOfNodes, faultOfKinds} {
		if what := look(ps); what != "" {
			return what
		}
	}
	return ""
}

func at(i int, what string) string { return "part " + strconv.Itoa(i) + ": " + what }

// faultOfParts: the nodes of each part rise and are its edges' ends, the lesser first; each edge is real or virtual.
func faultOfParts(ps []api.Piece) string {
	for i, p := range ps {
		for _, b := range p.Edges {
			isReal, isVirtual := b.Edge >= 0 && b.Twin == -1, b.Edge == -1 && b.Twin >= 0
			if b.A >= b.B || !isReal && !isVirtual {
				return at(i, "an edge")
			}
		}
		if !slices.Equal(p.Nodes, piece(p.Kind, p.Edges).Nodes) {
			return at(i, "the nodes")
		}
	}
	return ""
}

// faultOfTwins: each virtual edge has one just so in the part that its Twin names; it is the only one with that Twin;
// no Ring or Sheaf is twin of its like; and twins have just its two ends in common.
func faultOfTwins(ps []api.Piece) string {
	for i, p := range ps {
		twins := twinsOf(p)
		for k, j := range twins {
			switch {
			case j == i || j >= len(ps) || k > 0 && j == twins[k-1]:
				return at(i, "a Twin")
			case !slices.Contains(twinsOf(ps[j]), i):
				return at(i, "a virtual edge without its twin")
			case seam(p, j) != seam(ps[j], i):
				return at(i, "the ends of a virtual edge and of its twin")
			case p.Kind == ps[j].Kind && p.Kind != api.Rigid:
				return at(i, "a twin of its kind")
			case !slices.Equal(common(p, ps[j]), nums(seam(p, j)[0], seam(p, j)[1])):
				return at(i, "the nodes in common with a twin")
			}
		}
	}
	return ""
}

// twinsOf is the Twins of a part's virtual edges, in order.
func twinsOf(p api.Piece) []int {
	var twins []int
	for _, b := range p.Edges {
		if b.Twin >= 0 {
			twins = append(twins, b.Twin)
		}
	}
	slices.Sort(twins)
	return twins
}

// seam is the ends of the virtual edge to the part j.
func seam(p api.Piece, j int) [2]int {
	k := slices.IndexFunc(p.Edges, func(b api.Bond) bool { return b.Twin == j })
	return [2]int{p.Edges[k].A, p.Edges[k].B}
}

func common(p, q api.Piece) []int {
	var nodes []int
	for _, v := range p.Nodes {
		if slices.Contains(q.Nodes, v) {
			nodes = append(nodes, v)
		}
	}
	return nodes
}

// faultOfTree: each two twins join what was not joined yet, and all are joined in the end.
func faultOfTree(ps []api.Piece) string {
	above := make([]int, len(ps))
	for i := range above {
		above[i] = i
	}
	top := func(i int) int {
		for above[i] != i {
			i = above[i]
		}
		return i
	}
	trees := len(ps)
	for i, p := range ps {
		for _, j := range twinsOf(p) {
			if j < i {
				continue
			}
			if top(i) == top(j) {
				return at(i, "a cycle of parts")
			}
			above[top(i)] = top(j)
			trees--
		}
	}
	if trees != 1 {
		return strconv.Itoa(trees) + " trees"
	}
	return ""
}

// faultOfNumbers: the real edges are 0 to m - 1, m at least 3 and at most 3,072.
func faultOfNumbers(ps []api.Piece) string {
	edges := edgesOf(ps)
	for e, number := range edges {
		if e != number {
			return "the edge " + strconv.Itoa(number)
		}
	}
	if len(edges) < 3 || len(edges) > 3072 {
		return strconv.Itoa(len(edges)) + " edges"
	}
	return ""
}

// edgesOf is the numbers of the real edges of some parts, in order.
func edgesOf(ps []api.Piece) []int {
	var edges []int
	for _, p := range ps {
		for _, b := range p.Edges {
			if b.Edge >= 0 {
				edges = append(edges, b.Edge)
			}
		}
	}
	slices.Sort(edges)
	return edges
}

// faultOfNodes: the nodes are 0 to n - 1, n at most 1,024; those parts that have a node hang together by twins that have it.
func faultOfNodes(ps []api.Piece) string {
	has := map[int][]int{} // of each node the parts that have it
	for i, p := range ps {
		for _, v := range p.Nodes {
			has[v] = append(has[v], i)
		}
	}
	if len(has) > 1024 {
		return strconv.Itoa(len(has)) + " nodes"
	}
	for v := range len(has) {
		if len(has[v]) == 0 {
			return "no node " + strconv.Itoa(v)
		}
		met := map[int]int{has[v][0]: 1}
		list := nums(has[v][0])
		for k := 0; k < len(list); k++ {
			for _, j := range twinsOf(ps[list[k]]) {
				if met[j] == 0 && slices.Contains(ps[j].Nodes, v) {
					met[j] = 1
					list = append(list, j)
				}
			}
		}
		if len(list) != len(has[v]) {
			return "a node that a part between lacks: " + strconv.Itoa(v)
		}
	}
	return ""
}

func faultOfKinds(ps []api.Piece) string {
	for i, p := range ps {
		is := false
		switch p.Kind {
		case 1:
			is = isCycle(p)
		case 2:
			is = len(p.Nodes) == 2 && len(p.Edges) >= 3
		case 3:
			is = isSimple(p) && isThreefold(p)
		}
		if !is {
			return at(i, "its kind")
		}
	}
	return ""
}

// isCycle: three edges or more; walking from one on, always over one more, goes over all of them and ends where it began,
// through a node for each of them.
func isCycle(p api.Piece) bool {
	if len(p.Edges) < 3 || len(p.Nodes) != len(p.Edges) {
		return false
	}
	rest := slices.Clone(p.Edges)
	v := p.Edges[0].A
	for {
		k := slices.IndexFunc(rest, func(b api.Bond) bool { return b.A == v || b.B == v })
		if k < 0 {
			return len(rest) == 0 && v == p.Edges[0].A
		}
		v = rest[k].A + rest[k].B - v
		rest = slices.Delete(rest, k, k+1)
	}
}

func isSimple(p api.Piece) bool {
	met := map[[2]int]int{}
	for _, b := range p.Edges {
		met[[2]int{b.A, b.B}]++
	}
	return len(met) == len(p.Edges)
}

// isThreefold: more than three nodes, and connected whichever two or fewer of them are taken out; sepa is asked of great parts alone.
func isThreefold(p api.Piece) bool {
	place := map[int]int{}
	for k, v := range p.Nodes {
		place[v] = k
	}
	g := api.Net{N: len(p.Nodes)}
	for _, b := range p.Edges {
		g.Edges = append(g.Edges, [2]int{place[b.A], place[b.B]})
	}
	if g.N > 25 {
		level, err := sepa.Level(g)
		return level == 3 && err == api.OK
	}
	for u := range g.N {
		for v := range u + 1 { // of u twice it is u alone
			if !connectedWithout(g, u, v) {
				return false
			}
		}
	}
	return g.N > 3 && connectedWithout(g, -1, -1)
}

func connectedWithout(g api.Net, u, v int) bool {
	above := make([]int, g.N)
	count := 0
	for w := range above {
		above[w] = w
		if w != u && w != v {
			count++
		}
	}
	top := func(w int) int {
		for above[w] != w {
			w = above[w]
		}
		return w
	}
	for _, ends := range g.Edges {
		if a, b := top(ends[0]), top(ends[1]); a != b && !slices.Contains(ends[:], u) && !slices.Contains(ends[:], v) {
			above[a] = b
			count--
		}
	}
	return count <= 1
}

// away is the part j and all that hangs on it, away from i.
func away(ps []api.Piece, i, j int) []int {
	list := nums(j)
	for _, k := range twinsOf(ps[j]) {
		if k != i {
			list = append(list, away(ps, j, k)...)
		}
	}
	return list
}

// these are some of the parts.
func these(ps []api.Piece, list []int) []api.Piece {
	var few []api.Piece
	for _, i := range list {
		few = append(few, ps[i])
	}
	return few
}

// rightOrder is the parts of a tree in the order of the numbers of doc/16.
func rightOrder(ps []api.Piece) []int {
	var order []int
	var goThrough func(up, i int)
	goThrough = func(up, i int) {
		order = append(order, i)
		least := map[int]int{}
		twins := slices.DeleteFunc(twinsOf(ps[i]), func(k int) bool { return k == up })
		for _, k := range twins {
			least[k] = edgesOf(these(ps, away(ps, i, k)))[0]
		}
		slices.SortFunc(twins, func(a, b int) int { return cmp.Compare(least[a], least[b]) })
		for _, k := range twins {
			goThrough(i, k)
		}
	}
	goThrough(-1, slices.IndexFunc(ps, func(p api.Piece) bool { return slices.Contains(edgesOf([]api.Piece{p}), 0) }))
	return order
}

// inOrder is the same tree of parts with the numbers and orders of doc/16.
func inOrder(ps []api.Piece) []api.Piece {
	order := rightOrder(ps)
	number := make([]int, len(ps))
	for i, k := range order {
		number[k] = i
	}
	var list []api.Piece
	for _, p := range copied(these(ps, order)) {
		for x, b := range p.Edges {
			if b.Twin != -1 {
				p.Edges[x].Twin = number[b.Twin]
			}
		}
		slices.SortFunc(p.Edges, func(x, y api.Bond) int {
			if (x.Twin == -1) != (y.Twin == -1) {
				return cmp.Compare(x.Twin, y.Twin)
			}
			return cmp.Or(cmp.Compare(x.Edge, y.Edge), cmp.Compare(x.Twin, y.Twin))
		})
		list = append(list, p)
	}
	return list
}

// together is the net of some parts that are a tree.
func together(ps []api.Piece) api.Net {
	g := api.Net{Edges: make([][2]int, len(edgesOf(ps)))}
	for _, p := range ps {
		for _, b := range p.Edges {
			g.N = max(g.N, b.B+1)
			if b.Edge >= 0 {
				g.Edges[b.Edge] = [2]int{b.A, b.B}
			}
		}
	}
	return g
}

// check: all calls answer of a list of parts as the words say; it tells whether the list may be.
func check(t *testing.T, ps []api.Piece) bool {
	t.Helper()
	what := fault(ps)
	if May(ps) != (what == "") {
		t.Fatalf("P17.1: May(%v): %v, but: %q", ps, May(ps), what)
	}
	if what != "" {
		checkNone(t, ps)
		return false
	}
	g, err := Net(ps)
	if !net.Same(g, together(ps)) || err != api.OK {
		t.Fatalf("P17.1: Net(%v): %v, %v, not %v", ps, g, err, together(ps))
	}
	list, err := Order(ps)
	if !samePieces(list, inOrder(ps)) || err != api.OK {
		t.Fatalf("P17.1: Order(%v): %v, %v, not %v", ps, list, err, inOrder(ps))
	}
	if of, err := spqr.Of(g); !samePieces(of, list) || err != api.OK {
		t.Fatalf("W2: Order(%v): %v, but the net's parts: %v, %v", ps, list, of, err)
	}
	checkTree(t, ps)
	checkSides(t, ps)
	return true
}

// checkTree: there is an edge for each two twins, and no other, in order.
func checkTree(t *testing.T, ps []api.Piece) {
	t.Helper()
	tree, err := Tree(ps)
	if len(ps) > 1024 {
		if err != api.ErrLimit || tree.N != 0 || len(tree.Edges) != 0 {
			t.Fatalf("P17.2: Tree of %d parts: %d nodes, %d edges, %v", len(ps), tree.N, len(tree.Edges), err)
		}
		return
	}
	want := api.Net{N: len(ps)}
	for i, p := range ps {
		for _, j := range twinsOf(p) {
			if i < j {
				want.Edges = append(want.Edges, [2]int{i, j})
			}
		}
	}
	if !net.Same(tree, want) || err != api.OK {
		t.Fatalf("P17.2: Tree(%v): %v, %v, not %v", ps, tree, err, want)
	}
}

// checkSides: of twins the edges of the parts on that side; of others, and of what is no part, the error.
// Of great trees only some are asked for.
func checkSides(t *testing.T, ps []api.Piece) {
	t.Helper()
	most, others := 6, nums(-1, len(ps), 0, 1)
	if m := len(edgesOf(ps)); m > 1000 {
		most, others = 1, nil
	} else if m > 100 {
		most = 2
	}
	for i := 0; i < len(ps); i += 1 + len(ps)/most {
		twins := twinsOf(ps[i])
		for k := 0; k < len(twins); k += 1 + len(twins)/most {
			checkSide(t, ps, i, twins[k])
		}
		for _, j := range append(others, i) {
			if !slices.Contains(twins, j) {
				noSide(t, ps, i, j, api.ErrBounds)
				noSide(t, ps, j, i, api.ErrBounds)
			}
		}
	}
}

func checkSide(t *testing.T, ps []api.Piece, i, j int) {
	t.Helper()
	a, err := Side(ps, i, j)
	b, back := Side(ps, j, i)
	if want := edgesOf(these(ps, away(ps, i, j))); !slices.Equal(a, want) || err != api.OK {
		t.Fatalf("P17.2: Side(%v, %d, %d): %v, %v, not %v", ps, i, j, a, err, want)
	}
	both := slices.Concat(a, b)
	if slices.Sort(both); !slices.Equal(both, edgesOf(ps)) || back != api.OK {
		t.Fatalf("P17.2: the sides of %d and %d of %v: %v, %v, %v", i, j, ps, a, b, back)
	}
}

func noSide(t *testing.T, ps []api.Piece, i, j int, want api.Errno) {
	t.Helper()
	if edges, err := Side(ps, i, j); len(edges) != 0 || err != want {
		t.Fatalf("P17.2: Side(%v, %d, %d): %v, %v, not %v", ps, i, j, edges, err, want)
	}
}

// checkNone: of a list that may not be there is nothing but ErrTree, whatever else is asked.
func checkNone(t *testing.T, ps []api.Piece) {
	t.Helper()
	if May(ps) {
		t.Fatalf("P17.1: May(%v)", ps)
	}
	if g, err := Net(ps); err != api.ErrTree || g.N != 0 || len(g.Edges) != 0 {
		t.Fatalf("P17.1: Net(%v): %v, %v", ps, g, err)
	}
	if list, err := Order(ps); err != api.ErrTree || len(list) != 0 {
		t.Fatalf("P17.1: Order(%v): %v, %v", ps, list, err)
	}
	if g, err := Tree(ps); err != api.ErrTree || g.N != 0 || len(g.Edges) != 0 {
		t.Fatalf("P17.2: Tree(%v): %v, %v", ps, g, err)
	}
	for _, pair := range [][2]int{{0, 1}, {1, 0}, {0, 0}, {-1, 0}, {0, -1}, {math.MinInt, math.MaxInt}, {len(ps), 0}} {
		noSide(t, ps, pair[0], pair[1], api.ErrTree)
	}
}
