package spqr

import (
	"cmp"
	"math"
	"slices"
	"strconv"

	"tracery/api"
	"tracery/sepa"
)

// fault tells by what the parts are not the tree of parts of g, with the numbers and orders of the chapter; nothing, if they are it.
func fault(g api.Net, ps []api.Piece) string {
	for _, look := range []func(api.Net, []api.Piece) string{faultOfPart, faultOfEdges, faultOfTwins, faultOfTree, faultOfNumbers, faultOfNodes} {
		if what := look(g, ps); what != "" {
			return what
		}
	}
	return ""
}

func at(i int, what string) string { return "part " + strconv.Itoa(i) + ": " + what }

// faultOfPart: each part is by itself what the words say of its kind, its nodes rise, and its edges are in order.
func faultOfPart(g api.Net, ps []api.Piece) string {
	for i, p := range ps {
		for k, v := range p.Nodes {
			if v < 0 || v >= g.N || k > 0 && p.Nodes[k-1] >= v {
				return at(i, "its nodes")
			}
		}
		if !slices.Equal(p.Nodes, piece(0, p.Edges).Nodes) {
			return at(i, "its nodes are not those of its edges")
		}
		for k, b := range p.Edges {
			if b.A >= b.B {
				return at(i, "the ends of an edge")
			}
			if k > 0 && byWords(p.Edges[k-1], b) >= 0 {
				return at(i, "the order of its edges, or a Twin twice")
			}
		}
		if !isKind(p) {
			return at(i, "its kind")
		}
	}
	return ""
}

// byWords: the real ones, by number, then the virtual ones, by Twin.
func byWords(a, b api.Bond) int {
	virtual := func(x api.Bond) int {
		if x.Twin == -1 {
			return 0
		}
		return 1
	}
	return cmp.Or(cmp.Compare(virtual(a), virtual(b)), cmp.Compare(a.Edge, b.Edge), cmp.Compare(a.Twin, b.Twin))
}

func isKind(p api.Piece) bool {
	if len(p.Edges) < 3 {
		return false
	}
	switch p.Kind {
	case api.Ring:
		return len(p.Nodes) == len(p.Edges) && inOneRound(p.Edges)
	case api.Sheaf:
		return len(p.Nodes) == 2
	case api.Rigid:
		return isSimple(p.Edges) && isThreefold(p)
	}
	return false
}

// inOneRound: going on from edge to edge one comes over all of them back to the first.
func inOneRound(edges []api.Bond) bool {
	left := slices.Clone(edges[1:])
	for v := edges[0].B; len(left) > 0; {
		k := slices.IndexFunc(left, func(b api.Bond) bool { return b.A == v || b.B == v })
		if k < 0 {
			return false
		}
		v = left[k].A + left[k].B - v
		left = slices.Delete(left, k, k+1)
		if len(left) == 0 {
			return v == edges[0].A
		}
		if v == edges[0].A {
			return false
		}
	}
	return false
}

func isSimple(edges []api.Bond) bool {
	var pairs [][2]int
	for _, b := range edges {
		pairs = append(pairs, [2]int{b.A, b.B})
	}
	slices.SortFunc(pairs, byNodes)
	return len(slices.Compact(pairs)) == len(edges)
}

func byNodes(a, b [2]int) int { return slices.Compare(a[:], b[:]) }

// isThreefold: more than three nodes, and connected whichever two or fewer of them are taken out; sepa is asked of great parts alone.
func isThreefold(p api.Piece) bool {
	place := map[int]int{}
	for k, v := range p.Nodes {
		place[v] = k
	}
	g := api.Net{N: len(p.Nodes)}
	for _, b := range p.Edges {
		g.Edges = append(g.Edges, [2]int{place[b.A], place[b.B]})
	}
	if g.N > 25 {
		level, err := sepa.Level(g)
		return level == 3 && err == api.OK
	}
	for u := range g.N {
		for v := range u + 1 { // of u twice it is u alone
			if !connectedWithout(g, u, v) {
				return false
			}
		}
	}
	return g.N > 3 && connectedWithout(g, -1, -1)
}

func connectedWithout(g api.Net, u, v int) bool {
	above := make([]int, g.N)
	count := 0
	for w := range above {
		above[w] = w
		if w != u && w != v {
			count++
		}
	}
	top := func(w int) int {
		for above[w] != w {
			w = above[w]
		}
		return w
	}
	for _, ends := range g.Edges {
		if a, b := top(ends[0]), top(ends[1]); a != b && !slices.Contains(ends[:], u) && !slices.Contains(ends[:], v) {
			above[a] = b
			count--
		}
	}
	return count <= 1
}

// faultOfEdges: each edge of the net is in just one part, with its own ends.
func faultOfEdges(g api.Net, ps []api.Piece) string {
	seen := make([]int, len(g.Edges))
	for i, p := range ps {
		for _, b := range p.Edges {
			switch {
			case b.Twin != -1 && b.Edge != -1:
				return at(i, "an edge that is real and virtual")
			case b.Twin == -1 && (b.Edge < 0 || b.Edge >= len(seen)):
				return at(i, "an edge that the net has not")
			case b.Twin != -1:
				continue
			}
			seen[b.Edge]++
			if e := g.Edges[b.Edge]; b.A != min(e[0], e[1]) || b.B != max(e[0], e[1]) {
				return at(i, "an edge with other ends")
			}
		}
	}
	for e, times := range seen {
		if times != 1 {
			return "the edge " + strconv.Itoa(e) + " stands there " + strconv.Itoa(times) + " times"
		}
	}
	return ""
}

// faultOfTwins: each virtual edge has one just so in the part that its Twin names, and no Ring or Sheaf is twin of its like.
func faultOfTwins(_ api.Net, ps []api.Piece) string {
	for i, p := range ps {
		for _, b := range p.Edges {
			switch {
			case b.Twin == -1:
				continue
			case b.Twin < 0 || b.Twin >= len(ps) || b.Twin == i:
				return at(i, "a Twin that is no other part")
			case !slices.Contains(ps[b.Twin].Edges, twin(b.A, b.B, i)):
				return at(i, "a virtual edge without its twin")
			case p.Kind != api.Rigid && p.Kind == ps[b.Twin].Kind:
				return at(i, "a twin of its kind")
			}
		}
	}
	return ""
}

// faultOfTree: the twins make a tree.
func faultOfTree(_ api.Net, ps []api.Piece) string {
	virtual := 0
	for _, p := range ps {
		for _, b := range p.Edges {
			if b.Twin != -1 {
				virtual++
			}
		}
	}
	if len(ps) == 0 || virtual != 2*(len(ps)-1) || len(beyond(ps, -1, 0)) != len(ps) {
		return "no tree"
	}
	return ""
}

// beyond is the part j and all that hangs on it, away from i.
func beyond(ps []api.Piece, i, j int) []int {
	from := map[int]int{j: i}
	list := nums(j)
	for k := 0; k < len(list); k++ {
		for _, b := range ps[list[k]].Edges {
			if _, found := from[b.Twin]; b.Twin != -1 && b.Twin != i && !found {
				from[b.Twin] = list[k]
				list = append(list, b.Twin)
			}
		}
	}
	return list
}

// faultOfNodes: put together the parts have the nodes of the net, and no two nodes become one but by twins:
// whichever part has a node that one ahead has too, its twin ahead has it, and with that it has just two in common.
// (The numbers are as they are to be: each part but the first has one twin ahead.)
func faultOfNodes(g api.Net, ps []api.Piece) string {
	met := make([]int, g.N)
	for i, p := range ps {
		up := slices.IndexFunc(p.Edges, func(b api.Bond) bool { return b.Twin != -1 && b.Twin < i })
		common := 0
		for _, v := range p.Nodes {
			met[v]++
			switch {
			case up >= 0 && slices.Contains(ps[p.Edges[up].Twin].Nodes, v):
				common++
			case met[v] > 1:
				return at(i, "a node that its twin ahead has not")
			}
		}
		if up >= 0 && common != 2 {
			return at(i, "the nodes in common with its twin ahead")
		}
	}
	if slices.Contains(met, 0) {
		return "a node is in no part"
	}
	return ""
}

func faultOfNumbers(_ api.Net, ps []api.Piece) string {
	for i, k := range rightOrder(ps) {
		if i != k {
			return at(i, "its number")
		}
	}
	return ""
}

// rightOrder is the parts of a tree in the order of the numbers that they are to have.
func rightOrder(ps []api.Piece) []int {
	var order []int
	numbered := make([]bool, len(ps))
	var goThrough func(i int)
	goThrough = func(i int) {
		numbered[i] = true
		order = append(order, i)
		least := map[int]int{}
		var twins []int
		for _, b := range ps[i].Edges {
			if b.Twin != -1 && !numbered[b.Twin] {
				twins = append(twins, b.Twin)
				least[b.Twin] = leastEdge(ps, beyond(ps, i, b.Twin))
			}
		}
		slices.SortFunc(twins, func(a, b int) int { return cmp.Compare(least[a], least[b]) })
		for _, k := range twins {
			goThrough(k)
		}
	}
	goThrough(slices.IndexFunc(ps, func(p api.Piece) bool {
		return slices.ContainsFunc(p.Edges, func(b api.Bond) bool { return b.Edge == 0 })
	}))
	return order
}

func leastEdge(ps []api.Piece, parts []int) int {
	least := math.MaxInt
	for _, i := range parts {
		for _, b := range ps[i].Edges {
			if b.Twin == -1 {
				least = min(least, b.Edge)
			}
		}
	}
	return least
}

// inOrder is the same tree of parts with the numbers and orders of the chapter.
func inOrder(ps []api.Piece) []api.Piece {
	order := rightOrder(ps)
	number := make([]int, len(ps))
	for i, k := range order {
		number[k] = i
	}
	var list []api.Piece
	for _, k := range order {
		p := copied(ps[k : k+1])[0]
		for x, b := range p.Edges {
			if b.Twin != -1 {
				p.Edges[x].Twin = number[b.Twin]
			}
		}
		slices.SortFunc(p.Edges, byWords)
		list = append(list, p)
	}
	return list
}

// shown are the pairs that 'What follows' reads off a tree of parts, in order.
func shown(ps []api.Piece) [][2]int {
	var pairs [][2]int
	for _, p := range ps {
		for _, b := range p.Edges {
			if b.Twin != -1 || p.Kind == api.Sheaf && len(p.Edges) >= 4 {
				pairs = append(pairs, [2]int{b.A, b.B})
			}
		}
		if p.Kind == api.Ring {
			pairs = append(pairs, apart(p)...)
		}
	}
	slices.SortFunc(pairs, byNodes)
	return slices.Compact(pairs)
}

// apart: the pairs of nodes of a part that no edge of it joins.
func apart(p api.Piece) [][2]int {
	tied := map[[2]int]int{}
	for _, b := range p.Edges {
		tied[[2]int{b.A, b.B}]++
	}
	var pairs [][2]int
	for i, u := range p.Nodes {
		for _, v := range p.Nodes[i+1:] {
			if tied[[2]int{u, v}] == 0 {
				pairs = append(pairs, [2]int{u, v})
			}
		}
	}
	return pairs
}
