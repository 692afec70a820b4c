package base

import (
	"slices"

	"curtain/api"
	"curtain/cell"
	"curtain/expr"
	"curtain/typed"
	"curtain/wrong"
)

// tableWrong tells what is wrong with a table behind the earlier ones.
func (b *Base) tableWrong(t api.Table, earlier []api.Table) api.Errno {
	likeIt := func(other api.Table) bool { return other.Name == t.Name }
	bad := wrong.First(
		wrong.When(!expr.IsWord(t.Name) || slices.ContainsFunc(earlier, likeIt), api.ErrName),
		wrong.When(!isTable(t), api.ErrTable))
	if bad != api.OK {
		return bad
	}
	policy, bad := typed.Scope{Columns: rowColumns(t.Cols), Funcs: b.Funcs}.Read(t.Policy)
	return wrong.First(bad, wrong.When(policy.Type != api.Truth || !policy.Quiet, api.ErrPolicy))
}

func isTable(t api.Table) bool {
	return areColumns(t.Cols) && 0 <= t.Count && t.Count <= api.MaxCount && areRows(t.Rows, t.Cols)
}

func areColumns(cols []api.Column) bool {
	if len(cols) < 1 || len(cols) > api.MaxCols {
		return false
	}
	for i, c := range cols {
		likeIt := func(other api.Column) bool { return other.Name == c.Name }
		if !isColumn(c) || slices.ContainsFunc(cols[:i], likeIt) {
			return false
		}
	}
	return true
}

func isColumn(c api.Column) bool {
	return expr.IsWord(c.Name) && columnType(c) != api.None && 1 <= c.Distinct && c.Distinct <= api.MaxCount
}

// columnType is the type of a column; api.None, if its letter is none.
func columnType(c api.Column) int {
	if len(c.Type) != 1 {
		return api.None
	}
	return cell.TypeOf(c.Type[0])
}

func areRows(rows [][]api.Cell, cols []api.Column) bool {
	if len(rows) > api.MaxRows {
		return false
	}
	for _, row := range rows {
		if !isRow(row, cols) {
			return false
		}
	}
	return true
}

func isRow(row []api.Cell, cols []api.Column) bool {
	fits := func(c api.Cell, col api.Column) bool { return cell.Fits(c, columnType(col)) }
	return slices.EqualFunc(row, cols, fits)
}

// rowColumns are the columns as a policy names them.
func rowColumns(cols []api.Column) []typed.Name {
	var names []typed.Name
	for _, c := range cols {
		names = append(names, typed.Name{Text: "row." + c.Name, Type: columnType(c)})
	}
	return names
}
