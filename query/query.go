// Package query: queries: what is wrong with them, their items, the parts of their condition, and their Outs.
package query

import (
	"slices"

	"curtain/api"
	"curtain/base"
	"curtain/expr"
	"curtain/typed"
	"curtain/wrong"
)

// Query is a query that is right: the tables of its items, the parts of its condition, and its Outs, read.
type Query struct {
	Given  api.Query
	Tables []base.Table
	Parts  []Part
	Outs   []typed.Expr
}

// Read reads a query, or tells what is wrong with the user, the base or the query.
func Read(b api.Base, user string, q api.Query) (Query, api.Errno) {
	known, bad := base.ReadFor(b, user)
	if bad = wrong.First(bad, boundsWrong(q)); bad != api.OK {
		return Query{}, bad
	}
	tables, bad := itemTables(known, user, q.From)
	if bad != api.OK {
		return Query{}, bad
	}
	cols := columnsOf(tables, q.From)
	scope := typed.Scope{Columns: cols.names(), Funcs: known.Funcs}
	conditions, bad := readWhere(scope, q.Where)
	outs, badOut := readOuts(scope, q.Outs)
	if bad = wrong.First(bad, badOut); bad != api.OK {
		return Query{}, bad
	}
	return Query{Given: q, Tables: tables, Parts: cols.parts(conditions), Outs: outs}, api.OK
}

// Place is the place that an expression has of an item's first column; those of its others follow.
func (q Query) Place(item int) int {
	place := 0
	for _, table := range q.Tables[:item] {
		place += len(table.Given.Cols)
	}
	return place
}

// OrderWrong is an error, if the order does not have each item's number just once.
func (q Query) OrderWrong(order []int) api.Errno {
	if len(order) != len(q.Tables) {
		return api.ErrArg
	}
	// As many as there are items: if each one is there, none is there twice.
	for item := range q.Tables {
		if !slices.Contains(order, item) {
			return api.ErrArg
		}
	}
	return api.OK
}

func boundsWrong(q api.Query) api.Errno {
	return wrong.First(
		wrong.When(len(q.From) < 1 || len(q.From) > api.MaxItems, api.ErrQuery),
		wrong.When(len(q.Outs) < 1 || len(q.Outs) > api.MaxOuts, api.ErrQuery),
		wrong.When(q.Limit < -1 || q.Limit != -1 && len(q.Order) == 0, api.ErrQuery),
		wrong.When(len(q.Order) > api.MaxOuts || slices.ContainsFunc(q.Order, isBeyond(len(q.Outs))), api.ErrQuery))
}

// isBeyond tells of a key whether it is by none of so many Outs.
func isBeyond(outs int) func(api.Key) bool {
	return func(k api.Key) bool { return k.Out < 0 || k.Out >= outs }
}

// itemTables are the tables of the items, if all of these are right.
func itemTables(b base.Base, user string, from []api.Item) ([]base.Table, api.Errno) {
	var tables []base.Table
	for i, item := range from {
		likeIt := func(other api.Item) bool { return other.As == item.As }
		table, none := b.Table(item.Table)
		bad := wrong.First(none,
			wrong.When(!expr.IsWord(item.As) || slices.ContainsFunc(from[:i], likeIt), api.ErrName),
			table.GrantWrong(user))
		if bad != api.OK {
			return nil, bad
		}
		tables = append(tables, table)
	}
	return tables, api.OK
}

// readWhere reads a condition as those of its parts.
func readWhere(scope typed.Scope, where string) ([]typed.Expr, api.Errno) {
	if where == "" {
		return nil, api.OK
	}
	condition, bad := scope.Read(where)
	if bad = wrong.First(bad, wrong.When(condition.Type != api.Truth, api.ErrType)); bad != api.OK {
		return nil, bad
	}
	return split(condition), api.OK
}

func readOuts(scope typed.Scope, outs []string) ([]typed.Expr, api.Errno) {
	var list []typed.Expr
	for _, out := range outs {
		e, bad := scope.Read(out)
		if bad != api.OK {
			return nil, bad
		}
		list = append(list, e)
	}
	return list, api.OK
}
