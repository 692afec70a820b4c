package curtain

import (
	"strings"

	"curtain/api"
)

var nothing api.Cell

func num(n int) api.Cell { return api.Cell{Kind: api.Number, N: n} }

func txt(s string) api.Cell { return api.Cell{Kind: api.Text, S: s} }

func yes() api.Cell { return api.Cell{Kind: api.Truth, N: 1} }

func no() api.Cell { return api.Cell{Kind: api.Truth} }

func fn(name, args, body string) api.Func { return api.Func{Name: name, Args: args, Body: body} }

func withFuncs(funcs ...api.Func) api.Base { return api.Base{Funcs: funcs} }

func withTables(tables ...api.Table) api.Base { return api.Base{Tables: tables} }

func col(name, letter string) api.Column { return api.Column{Name: name, Type: letter, Distinct: 3} }

// people is a right table, new with each call, so that a test may break it.
func people() api.Table {
	return api.Table{
		Name:   "people",
		Cols:   []api.Column{col("k", "n"), col("s", "t"), col("h", "b")},
		Rows:   [][]api.Cell{{num(1), txt("x"), yes()}, {nothing, nothing, nothing}, {num(-5), txt(""), no()}},
		Count:  7,
		Policy: "row.h",
		Users:  []string{"me"},
	}
}

// times writes a text some times, each one behind a blank.
func times(n int, s string) string { return strings.Repeat(" "+s, n) }
