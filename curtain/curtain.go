// Package curtain: questions over tables of which each user sees some rows alone: see DOC.md.
package curtain

import (
	"curtain/api"
	"curtain/base"
	"curtain/cell"
	"curtain/expr"
	"curtain/typed"
	"curtain/work"
	"curtain/wrong"
)

// Tidy writes an expression in its one right way (P3).
func Tidy(s string) (string, api.Errno) {
	tree, wrong := expr.Parse(s)
	if wrong != api.OK {
		return "", wrong
	}
	return tree.String(), api.OK
}

// Check tells what is wrong with a base (P4).
func Check(b api.Base) api.Errno {
	_, bad := base.Read(b)
	return bad
}

// Quiet tells whether a function is quiet (P5).
func Quiet(b api.Base, name string) (bool, api.Errno) {
	f, bad := function(b, name)
	if bad != api.OK {
		return false, bad
	}
	return f.Body.Quiet, api.OK
}

// Call works a function out (P6).
func Call(b api.Base, user string, name string, args []api.Cell) (api.Cell, []string, api.Errno) {
	f, bad := function(b, name)
	bad = wrong.First(userWrong(user), bad)
	if bad != api.OK {
		return api.Cell{}, nil, bad
	}
	if !f.Takes(args) {
		return api.Cell{}, nil, api.ErrArg
	}
	worker := work.Worker{User: user}
	value, fault := worker.Call(f, args)
	return cell.Own(value), worker.Notes, fault
}

// See tells which rows of a table a user sees (P7).
func See(b api.Base, user string, table string) ([]int, api.Errno) { return nil, api.OK }

// Cost tells what an order of a query's items costs (P8).
func Cost(b api.Base, user string, q api.Query, order []int) (int, api.Errno) { return 0, api.OK }

// Plan tells how a query is gone through (P9).
func Plan(b api.Base, user string, q api.Query) ([]api.Step, api.Errno) { return nil, api.OK }

// Run answers a query (P10).
func Run(b api.Base, user string, q api.Query) (api.Answer, api.Errno) {
	return api.Answer{}, api.OK
}

// function is the function of this name of a base; an error, if the base is wrong or has none.
func function(b api.Base, name string) (*typed.Func, api.Errno) {
	read, bad := base.Read(b)
	f := typed.Find(read.Funcs, name)
	return f, wrong.First(bad, wrong.When(f == nil, api.ErrName))
}

func userWrong(user string) api.Errno {
	return wrong.When(len(user) > api.MaxLong, api.ErrArg)
}
