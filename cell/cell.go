// Package cell: cells: their types, which ones are right, how they are noted, which one is below which.
package cell

import (
	"cmp"
	"strconv"
	"strings"

	"curtain/api"
)

// Number is the cell of a number.
func Number(n int) api.Cell { return api.Cell{Kind: api.Number, N: n} }

// Text is the cell of a text.
func Text(s string) api.Cell { return api.Cell{Kind: api.Text, S: s} }

// Truth is the cell of a truth.
func Truth(is bool) api.Cell {
	if is {
		return api.Cell{Kind: api.Truth, N: 1}
	}
	return api.Cell{Kind: api.Truth}
}

// IsNothing tells whether a cell is nothing.
func IsNothing(c api.Cell) bool { return c.Kind == api.None }

// TypeOf is the type of a letter, as the kind that its cells have; api.None, if it is no type's letter.
func TypeOf(letter byte) int {
	switch letter {
	case 'n':
		return api.Number
	case 't':
		return api.Text
	case 'b':
		return api.Truth
	}
	return api.None
}

// InRange tells whether a cell can have this number.
func InRange(n int) bool { return -api.MaxNumber <= n && n <= api.MaxNumber }

// IsCell tells whether this is a cell at all.
func IsCell(c api.Cell) bool {
	switch c.Kind {
	case api.None:
		return c.N == 0 && c.S == ""
	case api.Number:
		return InRange(c.N) && c.S == ""
	case api.Text:
		return c.N == 0 && len(c.S) <= api.MaxLong
	case api.Truth:
		return (c.N == 0 || c.N == 1) && c.S == ""
	}
	return false
}

// Fits tells whether this is a cell that may stand where a type is asked for.
func Fits(c api.Cell, kind int) bool {
	return IsCell(c) && (IsNothing(c) || c.Kind == kind)
}

// Noted is what is told of a cell that is noted.
func Noted(c api.Cell) string {
	switch c.Kind {
	case api.Number:
		return strconv.Itoa(c.N)
	case api.Text:
		return "'" + c.S + "'"
	case api.Truth:
		return strconv.FormatBool(c.N == 1)
	}
	return "-"
}

// Compare is below 0, 0 or above 0, as a is below b, like it or above it; the two are of one type, and nothing is below all.
func Compare(a, b api.Cell) int {
	// The kinds of two cells of one type are unlike only if one is nothing, which has the least kind.
	// Numbers and truths have no S, and texts no N: only one of the two can tell them apart.
	return cmp.Or(cmp.Compare(a.Kind, b.Kind), cmp.Compare(a.N, b.N), strings.Compare(a.S, b.S))
}

// Own is the same cell in memory of its own, for an answer.
func Own(c api.Cell) api.Cell {
	c.S = strings.Clone(c.S)
	return c
}
