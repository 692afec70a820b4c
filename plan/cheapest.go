package plan

import (
	"cmp"
	"container/heap"
	"slices"

	"curtain/query"
)

// queue is a heap of begun orders, the cheapest one first; of several, the one whose items have the least numbers.
type queue []begun

func (q queue) Len() int { return len(q) }

// Less puts a begun order ahead of those that cost the same and go on from it, so that none of these is taken ahead of a lesser one.
func (q queue) Less(i, j int) bool {
	return cmp.Or(cmp.Compare(q[i].cost, q[j].cost), slices.Compare(q[i].order, q[j].order)) < 0
}

func (q queue) Swap(i, j int) { q[i], q[j] = q[j], q[i] }

func (q *queue) Push(x any) { *q = append(*q, x.(begun)) }

func (q *queue) Pop() any {
	last := len(*q) - 1
	x := (*q)[last]
	*q = (*q)[:last]
	return x
}

// cheapest is the order of all items that costs least. No order becomes cheaper when it is gone on with: so the first one that is whole is the cheapest of all.
func cheapest(q query.Query) []int {
	open := &queue{{}}
	for {
		first := heap.Pop(open).(begun)
		if len(first.order) == len(q.Tables) {
			return first.order
		}
		for item := range q.Tables {
			if !first.items.Has(item) {
				heap.Push(open, first.with(item, q))
			}
		}
	}
}
