package base

import (
	"slices"

	"curtain/api"
	"curtain/cell"
	"curtain/expr"
	"curtain/typed"
	"curtain/work"
	"curtain/wrong"
)

// Table is a table that is right, and its policy, read.
type Table struct {
	Given  api.Table
	Policy typed.Expr
}

// GrantWrong is an error, if the user may not ask for the table.
func (t Table) GrantWrong(user string) api.Errno {
	return wrong.When(!slices.Contains(t.Given.Users, user), api.ErrGrant)
}

// SeenBy is the numbers of the rows that the user sees.
func (t Table) SeenBy(user string) []int {
	worker := work.Worker{User: user}
	var seen []int
	for i, row := range t.Given.Rows {
		// There is no fault, as a policy is quiet.
		if c, _ := worker.Value(t.Policy, row); c == cell.Truth(true) {
			seen = append(seen, i)
		}
	}
	return seen
}

// Names are the columns as an expression names them, where their table is called so.
func Names(table string, cols []api.Column) []typed.Name {
	var names []typed.Name
	for _, c := range cols {
		names = append(names, typed.Name{Text: table + "." + c.Name, Type: columnType(c)})
	}
	return names
}

func isTable(t api.Table) bool {
	return areColumns(t.Cols) && 0 <= t.Count && t.Count <= api.MaxCount && areRows(t.Rows, t.Cols)
}

func areColumns(cols []api.Column) bool {
	if len(cols) < 1 || len(cols) > api.MaxCols {
		return false
	}
	for i, c := range cols {
		likeIt := func(other api.Column) bool { return other.Name == c.Name }
		if !isColumn(c) || slices.ContainsFunc(cols[:i], likeIt) {
			return false
		}
	}
	return true
}

func isColumn(c api.Column) bool {
	return expr.IsWord(c.Name) && columnType(c) != api.None && 1 <= c.Distinct && c.Distinct <= api.MaxCount
}

// columnType is the type of a column; api.None, if its letter is none.
func columnType(c api.Column) int {
	if len(c.Type) != 1 {
		return api.None
	}
	return cell.TypeOf(c.Type[0])
}

func areRows(rows [][]api.Cell, cols []api.Column) bool {
	if len(rows) > api.MaxRows {
		return false
	}
	for _, row := range rows {
		if !isRow(row, cols) {
			return false
		}
	}
	return true
}

func isRow(row []api.Cell, cols []api.Column) bool {
	fits := func(c api.Cell, col api.Column) bool { return cell.Fits(c, columnType(col)) }
	return slices.EqualFunc(row, cols, fits)
}
