// Package curtain: questions over tables of which each user sees some rows alone: see DOC.md.
package curtain

import (
	"curtain/api"
	"curtain/base"
	"curtain/cell"
	"curtain/expr"
	"curtain/plan"
	"curtain/query"
	"curtain/walk"
	"curtain/work"
	"curtain/wrong"
)

// Tidy writes an expression in its one right way (P3).
func Tidy(s string) (string, api.Errno) {
	tree, wrong := expr.Parse(s)
	if wrong != api.OK {
		return "", wrong
	}
	return tree.String(), api.OK
}

// Check tells what is wrong with a base (P4).
func Check(b api.Base) api.Errno {
	_, bad := base.Read(b)
	return bad
}

// Quiet tells whether a function is quiet (P5).
func Quiet(b api.Base, name string) (bool, api.Errno) {
	read, bad := base.Read(b)
	f, none := read.Func(name)
	if bad = wrong.First(bad, none); bad != api.OK {
		return false, bad
	}
	return f.Body.Quiet, api.OK
}

// Call works a function out (P6).
func Call(b api.Base, user string, name string, args []api.Cell) (api.Cell, []string, api.Errno) {
	read, bad := base.ReadFor(b, user)
	f, none := read.Func(name)
	if bad = wrong.First(bad, none); bad != api.OK {
		return api.Cell{}, nil, bad
	}
	if !f.Takes(args) {
		return api.Cell{}, nil, api.ErrArg
	}
	worker := work.Worker{User: user}
	value, fault := worker.Call(f, args)
	return cell.Own(value), worker.Notes, fault
}

// See tells which rows of a table a user sees (P7).
func See(b api.Base, user string, table string) ([]int, api.Errno) {
	read, bad := base.ReadFor(b, user)
	t, none := read.Table(table)
	if bad = wrong.First(bad, none, t.GrantWrong(user)); bad != api.OK {
		return nil, bad
	}
	return t.SeenBy(user), api.OK
}

// Cost tells what an order of a query's items costs (P8).
func Cost(b api.Base, user string, q api.Query, order []int) (int, api.Errno) {
	read, bad := query.Read(b, user, q)
	if bad = wrong.First(bad, read.OrderWrong(order)); bad != api.OK {
		return 0, bad
	}
	return plan.Cost(read, order), api.OK
}

// Plan tells how a query is gone through (P9).
func Plan(b api.Base, user string, q api.Query) ([]api.Step, api.Errno) {
	read, bad := query.Read(b, user, q)
	if bad != api.OK {
		return nil, bad
	}
	return plan.Steps(read), api.OK
}

// Run answers a query (P10).
func Run(b api.Base, user string, q api.Query) (api.Answer, api.Errno) {
	read, bad := query.Read(b, user, q)
	if bad != api.OK {
		return api.Answer{}, bad
	}
	return walk.Answer(read, user), api.OK
}
