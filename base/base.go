// Package base: bases: what is wrong with them, and their functions, read.
package base

import (
	"slices"

	"curtain/api"
	"curtain/cell"
	"curtain/expr"
	"curtain/typed"
	"curtain/wrong"
)

// Base is a base that is right.
type Base struct {
	Funcs []*typed.Func
}

// Read reads a base, or tells what is wrong with it.
func Read(b api.Base) (Base, api.Errno) {
	if len(b.Funcs) > api.MaxFuncs || len(b.Tables) > api.MaxTables {
		return Base{}, api.ErrArg
	}
	var read Base
	for _, f := range b.Funcs {
		if bad := read.addFunc(f); bad != api.OK {
			return Base{}, bad
		}
	}
	for i, t := range b.Tables {
		if bad := read.tableWrong(t, b.Tables[:i]); bad != api.OK {
			return Base{}, bad
		}
	}
	return read, api.OK
}

// addFunc reads a function where those ahead of it are known.
func (b *Base) addFunc(f api.Func) api.Errno {
	bad := wrong.First(
		wrong.When(!b.isFree(f.Name), api.ErrName),
		wrong.When(!areTypes(f.Args), api.ErrArg))
	if bad != api.OK {
		return bad
	}
	args := typesOf(f.Args)
	body, bad := typed.Scope{Params: args, Funcs: b.Funcs}.Read(f.Body)
	if bad != api.OK {
		return bad
	}
	b.Funcs = append(b.Funcs, &typed.Func{Name: f.Name, Args: args, Body: body})
	return api.OK
}

// isFree tells whether a further function may have this name.
func (b *Base) isFree(name string) bool {
	return expr.IsWord(name) && !expr.IsValueWord(name) && !typed.IsBuiltIn(name) && typed.Find(b.Funcs, name) == nil
}

func areTypes(letters string) bool {
	return len(letters) <= api.MaxArgs && !slices.Contains(typesOf(letters), api.None)
}

func typesOf(letters string) []int {
	var kinds []int
	for i := range len(letters) {
		kinds = append(kinds, cell.TypeOf(letters[i]))
	}
	return kinds
}
