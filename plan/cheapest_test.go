package plan

import (
	"container/heap"
	"math/rand"
	"slices"
	"testing"

	"curtain/api"
	"curtain/base"
	"curtain/query"
)

func TestTheCheapestBegunOrderComesFirst(t *testing.T) {
	want := []begun{
		{order: nil}, {order: []int{1}}, {order: []int{1, 0}}, {order: []int{2}},
		{order: []int{0}, cost: 1}, {order: []int{0, 1}, cost: 1}, {order: []int{0, 2, 1}, cost: 1}, {order: []int{3, 0}, cost: 1},
		{order: []int{0, 1, 2}, cost: 7}, {order: []int{0, 1, 3}, cost: 7}, {order: []int{0}, cost: api.MaxCost}, {order: []int{1}, cost: api.MaxCost},
	}
	random := rand.New(rand.NewSource(1))
	for range 100 {
		q := &queue{}
		for _, i := range random.Perm(len(want)) {
			heap.Push(q, want[i])
		}
		for i, w := range want {
			if got := heap.Pop(q).(begun); got.cost != w.cost || !slices.Equal(got.order, w.order) {
				t.Fatalf("begun order %d is %+v, want %+v", i, got, w)
			}
		}
		if q.Len() != 0 {
			t.Fatalf("there are %d more", q.Len())
		}
	}
}

func someTables(counts ...int) query.Query {
	var q query.Query
	for _, count := range counts {
		q.Tables = append(q.Tables, base.Table{Given: api.Table{Count: count}})
	}
	return q
}

func TestOrdersThatGoOnShareNoMemory(t *testing.T) {
	q := someTables(1, 2, 3, 4)
	o := begun{}.with(0, q).with(1, q).with(2, q)
	one := o.with(3, q)
	other := o.with(0, q)
	if one.order[3] != 3 || other.order[3] != 0 || len(o.order) != 3 {
		t.Errorf("the orders are %v, %v, %v", o.order, one.order, other.order)
	}
}

func TestCheapest(t *testing.T) {
	for _, c := range []struct {
		counts, want []int
	}{
		{[]int{5}, []int{0}}, {[]int{5, 4}, []int{1, 0}}, {[]int{4, 4}, []int{0, 1}}, {[]int{9, 7, 8, 7}, []int{1, 3, 2, 0}}, {[]int{9, 0, 8, 0}, []int{1, 0, 2, 3}},
	} {
		if got := cheapest(someTables(c.counts...)); !slices.Equal(got, c.want) {
			t.Errorf("the cheapest order of %v is %v, want %v", c.counts, got, c.want)
		}
	}
}
