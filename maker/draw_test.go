package maker

import (
	"math"
	"math/big"
	"slices"
	"testing"

	"tracery/api"
	"tracery/net"
)

// draws: the numbers of a seed, worked out without wrapping, the remainder of 2^64 taken each time.
func draws(seed uint64, count int) []*big.Int {
	s := new(big.Int).SetUint64(seed)
	times, _ := new(big.Int).SetString("6364136223846793005", 10)
	plus, _ := new(big.Int).SetString("1442695040888963407", 10)
	whole := new(big.Int).Lsh(big.NewInt(1), 64)
	list := make([]*big.Int, count)
	for i := range list {
		s.Mul(s, times).Add(s, plus).Mod(s, whole)
		list[i] = new(big.Int).Rsh(s, 33)
	}
	return list
}

func modulo(x *big.Int, n int) int {
	return int(new(big.Int).Mod(x, big.NewInt(int64(n))).Int64())
}

func seeds() []uint64 {
	return []uint64{0, 1, 2, 5, 42, 12345, 1 << 31, 1<<32 - 1, 1 << 32, 1 << 33, 1<<63 - 1, 1 << 63, 1<<63 + 1, math.MaxUint64 - 1, math.MaxUint64, 6364136223846793005, 1442695040888963407}
}

func TestRandom(t *testing.T) {
	for _, c := range []struct {
		n, m int
		seed uint64
		want api.Net
	}{
		{5, 1, 0, of(5, 2, 4)},
		{5, 4, 0, of(5, 2, 4, 2, 1, 0, 1, 4, 0)},
		{5, 4, 1, of(5, 4, 3, 1, 0, 4, 0, 0, 2)},
		{5, 4, math.MaxUint64, of(5, 3, 3, 2, 2, 4, 2, 0, 2)},
		{1000, 3, 12345, of(1000, 264, 583, 42, 421, 380, 950)},
		{1024, 2, math.MaxUint64, of(1024, 936, 695, 853, 2)},
		{7, 3, 1 << 63, of(7, 3, 2, 5, 3, 0, 6)},
		{1, 0, 3, of(1)},
		{1024, 0, 3, of(1024)},
		{1, 3, 8, of(1, 0, 0, 0, 0, 0, 0)},
	} {
		if g, e := Random(c.n, c.m, c.seed); !net.Same(g, c.want) || e != api.OK {
			t.Errorf("P5.2: Random(%d, %d, %d): %v, %v", c.n, c.m, c.seed, g, e)
		}
	}
}

// TestRandomByTheWords: each end is the next number drawn, modulo the nodes, and fewer edges are the first ones of more.
func TestRandomByTheWords(t *testing.T) {
	for _, seed := range seeds() {
		numbers := draws(seed, 2*3072)
		for _, n := range []int{1, 2, 3, 4, 5, 10, 255, 256, 257, 1000, 1023, 1024} {
			for _, m := range []int{1, 2, 17, 3072} {
				want := api.Net{N: n}
				for e := range m {
					want.Edges = append(want.Edges, [2]int{modulo(numbers[2*e], n), modulo(numbers[2*e+1], n)})
				}
				if g, e := Random(n, m, seed); !net.Same(g, want) || e != api.OK {
					t.Fatalf("P5.2: Random(%d, %d, %d): %v", n, m, seed, e)
				}
			}
		}
	}
}

func TestStack(t *testing.T) {
	for _, c := range []struct {
		n    int
		seed uint64
		want api.Net
	}{
		{3, 0, of(3, 0, 1, 1, 2, 2, 0)},
		{3, math.MaxUint64, of(3, 0, 1, 1, 2, 2, 0)},
		{7, 0, of(7, 0, 1, 1, 2, 2, 0, 3, 0, 3, 2, 3, 1, 4, 0, 4, 1, 4, 2, 5, 0, 5, 2, 5, 3, 6, 1, 6, 2, 6, 4)},
		{7, 1, of(7, 0, 1, 1, 2, 2, 0, 3, 0, 3, 1, 3, 2, 4, 0, 4, 2, 4, 1, 5, 0, 5, 1, 5, 3, 6, 1, 6, 3, 6, 5)},
		{7, math.MaxUint64, of(7, 0, 1, 1, 2, 2, 0, 3, 0, 3, 1, 3, 2, 4, 2, 4, 0, 4, 3, 5, 0, 5, 2, 5, 1, 6, 1, 6, 2, 6, 3)},
		{8, 42, of(8, 0, 1, 1, 2, 2, 0, 3, 0, 3, 1, 3, 2, 4, 1, 4, 2, 4, 3, 5, 2, 5, 3, 5, 4, 6, 4, 6, 2, 6, 5, 7, 2, 7, 3, 7, 5)},
	} {
		if g, e := Stack(c.n, c.seed); !net.Same(g, c.want) || e != api.OK {
			t.Errorf("P5.2: Stack(%d, %d): %v, %v", c.n, c.seed, g, e)
		}
	}
}

// TestStackByTheWords: the list of triangles is kept as a row of numbers here, and each node goes into the one drawn.
func TestStackByTheWords(t *testing.T) {
	for _, seed := range seeds() {
		numbers := draws(seed, 1021)
		list := []int{0, 1, 2, 0, 2, 1}
		want := of(1024, 0, 1, 1, 2, 2, 0)
		for v := 3; v < 1024; v++ {
			at := 3 * modulo(numbers[v-3], len(list)/3)
			a, b, c := list[at], list[at+1], list[at+2]
			want.Edges = append(want.Edges, [2]int{v, a}, [2]int{v, b}, [2]int{v, c})
			list[at+2] = v
			list = append(list, b, c, v, c, a, v)
		}
		if g, e := Stack(1024, seed); !net.Same(g, want) || e != api.OK {
			t.Fatalf("P5.2: Stack(1024, %d): %v", seed, e)
		}
		for _, n := range []int{3, 4, 5, 6, 50, 1023} {
			if g, e := Stack(n, seed); g.N != n || !slices.Equal(g.Edges, want.Edges[:3*n-6]) || e != api.OK {
				t.Errorf("P5.2: Stack(%d, %d) is not how a greater one begins: %v", n, seed, e)
			}
		}
		look, e := net.Look(want)
		if !look.Simple || e != api.OK {
			t.Errorf("what follows: Stack(1024, %d) is not simple", seed)
		}
	}
}

// TestStackIsPlanar: taken off again from the last one on, each node has three neighbours that are each other's, and a triangle is left: so it is planar.
func TestStackIsPlanar(t *testing.T) {
	for seed := range uint64(40) {
		g, _ := Stack(60, seed)
		joined := map[[2]int]int{}
		for _, ends := range g.Edges {
			joined[[2]int{min(ends[0], ends[1]), max(ends[0], ends[1])}]++
		}
		inside := map[[3]int]int{}
		for v := 3; v < g.N; v++ {
			three := []int{g.Edges[3*v-6][1], g.Edges[3*v-5][1], g.Edges[3*v-4][1]}
			slices.Sort(three)
			a, b, c := three[0], three[1], three[2]
			if c >= v || joined[[2]int{a, b}] != 1 || joined[[2]int{b, c}] != 1 || joined[[2]int{a, c}] != 1 {
				t.Fatalf("what follows: Stack(60, %d): node %d has %v", seed, v, three)
			}
			// Either side of the first triangle takes a node, each later one is within its own.
			inside[[3]int{a, b, c}]++
			if most := 1 + boolean(c == 2); inside[[3]int{a, b, c}] > most {
				t.Fatalf("what follows: Stack(60, %d): %v took a node twice", seed, three)
			}
		}
	}
}

func boolean(b bool) int {
	if b {
		return 1
	}
	return 0
}
