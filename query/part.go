package query

import (
	"curtain/api"
	"curtain/base"
	"curtain/typed"
)

// Part is a part of a condition: of which items a column stands in it, and by what it divides an estimate.
type Part struct {
	typed.Expr
	Items   Set
	Divisor int
}

// column is a column of an item: how an expression names it, whose it is, how many values are said to stand in it.
type column struct {
	typed.Name
	item     int
	distinct int
}

// columns are those of all items, each one at the place that an expression has of it.
type columns []column

func columnsOf(tables []base.Table, from []api.Item) columns {
	var list columns
	for item, table := range tables {
		cols := table.Given.Cols
		for i, name := range base.Names(from[item].As, cols) {
			list = append(list, column{name, item, cols[i].Distinct})
		}
	}
	return list
}

func (c columns) names() []typed.Name {
	var names []typed.Name
	for _, col := range c {
		names = append(names, col.Name)
	}
	return names
}

// split is the conditions of which all must hold, so that this one does.
func split(condition typed.Expr) []typed.Expr {
	if condition.Head != "and" {
		return []typed.Expr{condition}
	}
	var list []typed.Expr
	for _, operand := range condition.Operands {
		list = append(list, split(operand)...)
	}
	return list
}

func (c columns) parts(conditions []typed.Expr) []Part {
	var list []Part
	for _, e := range conditions {
		list = append(list, Part{Expr: e, Items: c.items(e), Divisor: c.divisor(e)})
	}
	return list
}

// items are those of which a column stands in the expression.
func (c columns) items(e typed.Expr) Set {
	var set Set
	if e.Sort == typed.Column {
		set = set.With(c[e.Place].item)
	}
	for _, operand := range e.Operands {
		set |= c.items(operand)
	}
	return set
}

func (c columns) divisor(e typed.Expr) int {
	const otherwise = 3
	if e.Head != "=" {
		return otherwise
	}
	left, right := e.Operands[0], e.Operands[1]
	leftItems, rightItems := c.items(left), c.items(right)
	leftIs, rightIs := left.Sort == typed.Column, right.Sort == typed.Column
	switch {
	case leftIs && rightIs && leftItems != rightItems:
		return max(c[left.Place].distinct, c[right.Place].distinct)
	case leftIs && rightItems == 0:
		return c[left.Place].distinct
	case rightIs && leftItems == 0:
		return c[right.Place].distinct
	}
	return otherwise
}
