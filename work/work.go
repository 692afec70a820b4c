// Package work: expressions, worked out.
package work

import (
	"curtain/api"
	"curtain/cell"
	"curtain/typed"
)

// Worker works out for a user, and gathers what is noted.
type Worker struct {
	User  string
	Notes []string
}

// Call works a function out, or tells the fault that ended it.
func (w *Worker) Call(f *typed.Func, args []api.Cell) (api.Cell, api.Errno) {
	return frame{Worker: w, args: args}.value(f.Body)
}

// Value works out an expression where the columns have these cells, or tells the fault that ended it.
func (w *Worker) Value(e typed.Expr, columns []api.Cell) (api.Cell, api.Errno) {
	return frame{Worker: w, columns: columns}.value(e)
}

// Values works out expressions from left to right, as Value does, or tells the fault that ended them.
func (w *Worker) Values(list []typed.Expr, columns []api.Cell) ([]api.Cell, api.Errno) {
	return frame{Worker: w, columns: columns}.values(list)
}

// frame is the working out of one expression or body: what its columns or its parameters are.
type frame struct {
	*Worker
	columns []api.Cell
	args    []api.Cell
}

func (f frame) value(e typed.Expr) (api.Cell, api.Errno) {
	switch e.Sort {
	case typed.User:
		return cell.Text(f.User), api.OK
	case typed.Column:
		return f.columns[e.Place], api.OK
	case typed.Parameter:
		return f.args[e.Place], api.OK
	case typed.BuiltIn:
		return f.builtIn(e)
	case typed.Call:
		return f.call(e)
	}
	return e.Value, api.OK
}

func (f frame) call(e typed.Expr) (api.Cell, api.Errno) {
	args, fault := f.values(e.Operands)
	if fault != api.OK {
		return api.Cell{}, fault
	}
	return f.Call(e.Func, args)
}

func (f frame) builtIn(e typed.Expr) (api.Cell, api.Errno) {
	switch e.Head {
	case "and":
		return f.and(e.Operands...)
	case "or":
		return f.or(e.Operands...)
	case "if":
		return f.choose(e.Operands[0], e.Operands[1], e.Operands[2])
	}
	operands, fault := f.values(e.Operands)
	if fault != api.OK {
		return api.Cell{}, fault
	}
	if e.Head == "note" {
		return f.note(operands[0]), api.OK
	}
	return apply(e.Head, operands)
}

// values works out all, up to a fault.
func (f frame) values(operands []typed.Expr) ([]api.Cell, api.Errno) {
	var cells []api.Cell
	for _, operand := range operands {
		c, fault := f.value(operand)
		if fault != api.OK {
			return nil, fault
		}
		cells = append(cells, c)
	}
	return cells, api.OK
}

func (f frame) and(operands ...typed.Expr) (api.Cell, api.Errno) {
	return f.upTo(cell.Truth(false), cell.Truth(true), operands...)
}

func (f frame) or(operands ...typed.Expr) (api.Cell, api.Errno) {
	return f.upTo(cell.Truth(true), cell.Truth(false), operands...)
}

// upTo works out operands up to the first that is stop, and is that; if there is none, it is otherwise, or nothing if one was.
func (f frame) upTo(stop, otherwise api.Cell, operands ...typed.Expr) (api.Cell, api.Errno) {
	last := otherwise
	for _, operand := range operands {
		c, fault := f.value(operand)
		if fault != api.OK || c == stop {
			return c, fault
		}
		if cell.IsNothing(c) {
			last = c
		}
	}
	return last, api.OK
}

func (f frame) choose(condition, then, otherwise typed.Expr) (api.Cell, api.Errno) {
	c, fault := f.value(condition)
	if fault != api.OK {
		return api.Cell{}, fault
	}
	if c == cell.Truth(true) {
		return f.value(then)
	}
	return f.value(otherwise)
}

func (w *Worker) note(c api.Cell) api.Cell {
	w.Notes = append(w.Notes, cell.Noted(c))
	return c
}
