package typed

import (
	"slices"
	"strconv"

	"curtain/api"
	"curtain/cell"
	"curtain/expr"
)

func (s Scope) expression(t expr.Tree) (Expr, api.Errno) {
	if t.Bracket {
		return s.bracket(t)
	}
	switch t.Kind {
	case expr.Column:
		return s.column(t.Text)
	case expr.Parameter:
		return s.parameter(t.Text)
	}
	return single(t.Token), api.OK
}

// single is the expression of a token that needs not be known.
func single(t expr.Token) Expr {
	switch {
	case t.Kind == expr.Numeral:
		// It is a numeral, so it can be read.
		n, _ := strconv.Atoi(t.Text)
		return constant(cell.Number(n))
	case t.Kind == expr.Quote:
		return constant(cell.Text(t.Text[1 : len(t.Text)-1]))
	case t.Text == "user":
		return Expr{Sort: User, Type: api.Text, Size: 1, Quiet: true}
	}
	return constant(cell.Truth(t.Text == "true"))
}

func constant(c api.Cell) Expr {
	return Expr{Sort: Constant, Type: c.Kind, Size: 1, Quiet: true, Value: c}
}

func (s Scope) column(text string) (Expr, api.Errno) {
	place := slices.IndexFunc(s.Columns, func(n Name) bool { return n.Text == text })
	if place < 0 {
		return Expr{}, api.ErrName
	}
	return Expr{Sort: Column, Type: s.Columns[place].Type, Size: 1, Quiet: true, Place: place}, api.OK
}

func (s Scope) parameter(text string) (Expr, api.Errno) {
	place := int(text[1] - '1')
	if place >= len(s.Params) {
		return Expr{}, api.ErrName
	}
	return Expr{Sort: Parameter, Type: s.Params[place], Size: 1, Quiet: true, Place: place}, api.OK
}

// bracket reads the operands ahead of the head, as what is wrong with them counts first.
func (s Scope) bracket(t expr.Tree) (Expr, api.Errno) {
	e := Expr{Head: t.Text, Size: 1, Quiet: true}
	for _, tree := range t.Operands {
		operand, bad := s.expression(tree)
		if bad != api.OK {
			return Expr{}, bad
		}
		e.Operands = append(e.Operands, operand)
		e.Size += operand.Size
		e.Quiet = e.Quiet && operand.Quiet
	}
	if IsBuiltIn(e.Head) {
		return builtIn(e)
	}
	return s.call(e)
}

// builtIn completes a bracket, of which the operands are read, with one of the heads that are always known.
func builtIn(e Expr) (Expr, api.Errno) {
	e.Sort = BuiltIn
	e.Type = typeOf(e.Head, types(e.Operands))
	e.Quiet = e.Quiet && isQuiet(e.Head)
	if e.Type == api.None {
		return Expr{}, api.ErrType
	}
	return e, api.OK
}

// call completes a bracket, of which the operands are read, with a function.
func (s Scope) call(e Expr) (Expr, api.Errno) {
	f := Find(s.Funcs, e.Head)
	if f == nil {
		return Expr{}, api.ErrName
	}
	if !slices.Equal(types(e.Operands), f.Args) {
		return Expr{}, api.ErrType
	}
	e.Sort = Call
	e.Func = f
	e.Type = f.Body.Type
	e.Size += f.Body.Size
	e.Quiet = e.Quiet && f.Body.Quiet
	return e, api.OK
}

// Find is the function of this name; nil, if there is none.
func Find(funcs []*Func, name string) *Func {
	i := slices.IndexFunc(funcs, func(f *Func) bool { return f.Name == name })
	if i < 0 {
		return nil
	}
	return funcs[i]
}

func types(operands []Expr) []int {
	var kinds []int
	for _, operand := range operands {
		kinds = append(kinds, operand.Type)
	}
	return kinds
}
