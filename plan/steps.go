package plan

import (
	"curtain/api"
	"curtain/query"
)

// Steps is the plan of a query: its cheapest order, and the parts that are asked with each item.
func Steps(q query.Query) []api.Step {
	var steps []api.Step
	var there query.Set
	for _, item := range cheapest(q) {
		steps = append(steps, api.Step{Item: item, Parts: asked(q.Parts, item, there)})
		there = there.With(item)
	}
	return steps
}

// asked are the parts that can be asked when a row of the item is there, and could not with the items that were there before: first the quiet ones.
func asked(parts []query.Part, item int, before query.Set) []int {
	var quiet, others []int
	for i, part := range parts {
		// Parts without items can be asked before, but for the first item.
		early := before != 0 && part.Items.IsWithin(before)
		if early || !part.Items.IsWithin(before.With(item)) {
			continue
		}
		if part.Quiet {
			quiet = append(quiet, i)
		} else {
			others = append(others, i)
		}
	}
	return append(quiet, others...)
}
