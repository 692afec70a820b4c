// Package walk: queries, gone through for a user, and what that answers.
package walk

import (
	"cmp"
	"slices"

	"curtain/api"
	"curtain/cell"
	"curtain/query"
	"curtain/work"
)

// Answer goes through a query for a user.
func Answer(q query.Query, user string) api.Answer {
	worker := &work.Worker{User: user}
	rows, fault := collect(newWalker(q, worker))
	if fault != api.OK {
		return api.Answer{Notes: worker.Notes, Fault: fault}
	}
	arrange(rows, q.Given.Order)
	return api.Answer{Rows: told(rows, q.Given.Limit), Notes: worker.Notes}
}

// arrange sorts rows by the keys. No two are made of the same rows, so that those which the keys leave alike stand by their items' rows.
func arrange(rows []row, keys []api.Key) {
	slices.SortFunc(rows, func(a, b row) int {
		return cmp.Or(byKeys(a.cells, b.cells, keys), slices.Compare(a.numbers, b.numbers))
	})
}

func byKeys(a, b []api.Cell, keys []api.Key) int {
	for _, key := range keys {
		order := cell.Compare(a[key.Out], b[key.Out])
		if key.Down {
			order = -order
		}
		if order != 0 {
			return order
		}
	}
	return 0
}

// told is the cells of as many rows as the limit allows (-1: all), in memory of their own.
func told(rows []row, limit int) [][]api.Cell {
	if limit >= 0 {
		rows = rows[:min(limit, len(rows))]
	}
	var list [][]api.Cell
	for _, r := range rows {
		list = append(list, ownCells(r.cells))
	}
	return list
}

func ownCells(cells []api.Cell) []api.Cell {
	var list []api.Cell
	for _, c := range cells {
		list = append(list, cell.Own(c))
	}
	return list
}
