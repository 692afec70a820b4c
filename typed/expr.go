// Package typed: expressions of which all names are known and all operands fit.
package typed

import (
	"slices"

	"curtain/api"
	"curtain/cell"
	"curtain/expr"
	"curtain/wrong"
)

// Sort tells what an expression is.
type Sort int

const (
	Constant Sort = iota
	User
	Column
	Parameter
	BuiltIn // a bracket with one of the heads that are always known
	Call    // a bracket with a function's name
)

// Expr is an expression. Types are the kinds of their cells: api.Number, api.Text, api.Truth.
type Expr struct {
	Sort     Sort
	Type     int
	Size     int
	Quiet    bool
	Value    api.Cell // of a constant
	Place    int      // of a column or a parameter, among those that are known
	Head     string   // of a bracket
	Func     *Func    // of a call
	Operands []Expr   // of a bracket
}

// Func is a function: its name, the types of its arguments, its body.
type Func struct {
	Name string
	Args []int
	Body Expr
}

// Takes tells whether these may be the arguments of the function.
func (f *Func) Takes(args []api.Cell) bool {
	return slices.EqualFunc(args, f.Args, cell.Fits)
}

// Name is a column that is known, and its type.
type Name struct {
	Text string
	Type int
}

// Scope is what is known where an expression stands: columns, the types of the parameters, functions.
type Scope struct {
	Columns []Name
	Params  []int
	Funcs   []*Func
}

// Read reads a text as an expression, or tells what is wrong with it.
func (s Scope) Read(text string) (Expr, api.Errno) {
	tree, bad := expr.Parse(text)
	if bad != api.OK {
		return Expr{}, bad
	}
	e, bad := s.expression(tree)
	bad = wrong.First(bad, wrong.When(e.Size > api.MaxSize, api.ErrSize))
	if bad != api.OK {
		return Expr{}, bad
	}
	return e, api.OK
}
