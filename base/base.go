// Package base: bases: what is wrong with them, their functions and policies, read, and who sees which rows.
package base

import (
	"slices"

	"curtain/api"
	"curtain/cell"
	"curtain/expr"
	"curtain/typed"
	"curtain/wrong"
)

// Base is a base that is right.
type Base struct {
	Funcs  []*typed.Func
	Tables []Table
}

// ReadFor reads a base for a user, or tells what is wrong with the user or the base.
func ReadFor(b api.Base, user string) (Base, api.Errno) {
	if len(user) > api.MaxLong {
		return Base{}, api.ErrArg
	}
	return Read(b)
}

// Read reads a base, or tells what is wrong with it.
func Read(b api.Base) (Base, api.Errno) {
	if len(b.Funcs) > api.MaxFuncs || len(b.Tables) > api.MaxTables {
		return Base{}, api.ErrArg
	}
	var read Base
	for _, f := range b.Funcs {
		if bad := read.addFunc(f); bad != api.OK {
			return Base{}, bad
		}
	}
	for _, t := range b.Tables {
		if bad := read.addTable(t); bad != api.OK {
			return Base{}, bad
		}
	}
	return read, api.OK
}

// Func is the function of this name.
func (b Base) Func(name string) (*typed.Func, api.Errno) {
	f := typed.Find(b.Funcs, name)
	return f, wrong.When(f == nil, api.ErrName)
}

// Table is the table of this name.
func (b Base) Table(name string) (Table, api.Errno) {
	i := slices.IndexFunc(b.Tables, func(t Table) bool { return t.Given.Name == name })
	if i < 0 {
		return Table{}, api.ErrName
	}
	return b.Tables[i], api.OK
}

// addFunc reads a function where those ahead of it are known.
func (b *Base) addFunc(f api.Func) api.Errno {
	bad := wrong.First(
		wrong.When(!b.isFree(f.Name), api.ErrName),
		wrong.When(!areTypes(f.Args), api.ErrArg))
	if bad != api.OK {
		return bad
	}
	args := typesOf(f.Args)
	body, bad := typed.Scope{Params: args, Funcs: b.Funcs}.Read(f.Body)
	if bad != api.OK {
		return bad
	}
	b.Funcs = append(b.Funcs, &typed.Func{Name: f.Name, Args: args, Body: body})
	return api.OK
}

// isFree tells whether a further function may have this name.
func (b *Base) isFree(name string) bool {
	return expr.IsWord(name) && !expr.IsValueWord(name) && !typed.IsBuiltIn(name) && typed.Find(b.Funcs, name) == nil
}

// addTable reads a table where all functions are known.
func (b *Base) addTable(t api.Table) api.Errno {
	_, none := b.Table(t.Name)
	bad := wrong.First(
		wrong.When(!expr.IsWord(t.Name) || none == api.OK, api.ErrName),
		wrong.When(!isTable(t), api.ErrTable))
	if bad != api.OK {
		return bad
	}
	policy, bad := typed.Scope{Columns: Names("row", t.Cols), Funcs: b.Funcs}.Read(t.Policy)
	bad = wrong.First(bad, wrong.When(policy.Type != api.Truth || !policy.Quiet, api.ErrPolicy))
	if bad != api.OK {
		return bad
	}
	b.Tables = append(b.Tables, Table{Given: t, Policy: policy})
	return api.OK
}

func areTypes(letters string) bool {
	return len(letters) <= api.MaxArgs && !slices.Contains(typesOf(letters), api.None)
}

func typesOf(letters string) []int {
	var kinds []int
	for i := range len(letters) {
		kinds = append(kinds, cell.TypeOf(letters[i]))
	}
	return kinds
}
