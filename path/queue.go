package path

import (
	"container/heap"
	"slices"
)

// queue is the heap of the nodes that wait, by Far and number. It looks into the list of Far itself;
// where each node stands is kept, so that one that came nearer moves up instead of standing there twice.
type queue struct {
	far   []float64
	nodes []int
	place []int // of each node where it stands in nodes, -1 if nowhere
}

// nobody: a queue in which no node waits yet.
func nobody(far []float64) *queue {
	return &queue{far: far, place: slices.Repeat([]int{-1}, len(far))}
}

// come: v waits from now on, or waits with a lesser Far than before.
func (q *queue) come(v int) {
	if i := q.place[v]; i >= 0 {
		heap.Fix(q, i)
		return
	}
	heap.Push(q, v)
}

// next: the nearest node that waits, which waits no more.
func (q *queue) next() int { return heap.Pop(q).(int) }

// Len, Less, Swap, Push and Pop are what container/heap asks for.

func (q *queue) Len() int { return len(q.nodes) }

func (q *queue) Less(i, j int) bool {
	u, v := q.nodes[i], q.nodes[j]
	if q.far[u] != q.far[v] {
		return q.far[u] < q.far[v]
	}
	return u < v
}

func (q *queue) Swap(i, j int) {
	q.nodes[i], q.nodes[j] = q.nodes[j], q.nodes[i]
	q.place[q.nodes[i]], q.place[q.nodes[j]] = i, j
}

func (q *queue) Push(x any) {
	v := x.(int)
	q.place[v] = len(q.nodes)
	q.nodes = append(q.nodes, v)
}

func (q *queue) Pop() any {
	last := len(q.nodes) - 1
	v := q.nodes[last]
	q.nodes = q.nodes[:last]
	q.place[v] = -1
	return v
}
