// Package plan: what an order of a query's items costs, the cheapest one, and how it is gone through.
package plan

import (
	"slices"

	"curtain/api"
	"curtain/query"
)

// Cost is what an order of all items costs.
func Cost(q query.Query, order []int) int {
	var o begun
	for _, item := range order {
		o = o.with(item, q)
	}
	return o.cost
}

// begun is an order of some of a query's items, and what it costs up to there.
type begun struct {
	order []int
	items query.Set
	cost  int
}

// with is the order with one item more behind it, in memory of its own, as one order is gone on with in several ways.
func (o begun) with(item int, q query.Query) begun {
	items := o.items.With(item)
	order := append(slices.Clone(o.order), item)
	return begun{order, items, min(o.cost+estimate(q, items), api.MaxCost)}
}

// estimate cannot wrap round, as it is cut off to MaxCost ahead of each Count, and both are far below the greatest int.
func estimate(q query.Query, items query.Set) int {
	rows := 1
	for i, table := range q.Tables {
		if items.Has(i) {
			rows = min(rows*table.Given.Count, api.MaxCost)
		}
	}
	for _, part := range q.Parts {
		if part.Items != 0 && part.Items.IsWithin(items) {
			rows = divided(rows, part.Divisor)
		}
	}
	return rows
}

// divided leaves at least 1 of some rows, and none only of none.
func divided(rows, divisor int) int {
	if rows == 0 {
		return 0
	}
	return max(rows/divisor, 1)
}
