package work

import (
	"slices"
	"strings"

	"curtain/api"
	"curtain/cell"
	"curtain/wrong"
)

// apply works out a built-in head of which all operands are.
func apply(head string, operands []api.Cell) (api.Cell, api.Errno) {
	if head == "isnull" {
		return cell.Truth(cell.IsNothing(operands[0])), api.OK
	}
	if slices.ContainsFunc(operands, cell.IsNothing) {
		return api.Cell{}, api.OK
	}
	switch head {
	case "+", "-", "*", "/":
		return calculate(head, operands[0].N, operands[1].N)
	case "cat":
		return cat(operands...)
	case "not":
		return cell.Truth(operands[0] == cell.Truth(false)), api.OK
	case "len":
		return cell.Number(len(operands[0].S)), api.OK
	}
	return compare(head, operands[0], operands[1]), api.OK
}

// calculate cannot wrap round, as its operands are numbers of cells.
func calculate(head string, a, b int) (api.Cell, api.Errno) {
	if head == "/" && b == 0 {
		return api.Cell{}, api.Zero
	}
	n := 0
	switch head {
	case "+":
		n = a + b
	case "-":
		n = a - b
	case "*":
		n = a * b
	case "/":
		n = a / b
	}
	return unless(wrong.When(!cell.InRange(n), api.Over), cell.Number(n))
}

func cat(texts ...api.Cell) (api.Cell, api.Errno) {
	var b strings.Builder
	for _, t := range texts {
		b.WriteString(t.S)
	}
	return unless(wrong.When(b.Len() > api.MaxLong, api.Long), cell.Text(b.String()))
}

func compare(head string, a, b api.Cell) api.Cell {
	order := cell.Compare(a, b)
	switch head {
	case "=":
		return cell.Truth(order == 0)
	case "<":
		return cell.Truth(order < 0)
	}
	return cell.Truth(order <= 0)
}

// unless is the value, but with a fault nothing.
func unless(fault api.Errno, c api.Cell) (api.Cell, api.Errno) {
	if fault != api.OK {
		return api.Cell{}, fault
	}
	return c, api.OK
}
