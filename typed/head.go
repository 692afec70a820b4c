package typed

import (
	"slices"

	"curtain/api"
)

// IsBuiltIn tells whether a head is always known, so that no function may have its name.
func IsBuiltIn(head string) bool {
	switch head {
	case "+", "-", "*", "/", "=", "<", "<=", "and", "or", "not", "isnull", "if", "len", "cat", "note":
		return true
	}
	return false
}

// isQuiet tells whether a built-in head can neither fail nor note.
func isQuiet(head string) bool {
	switch head {
	case "+", "-", "*", "/", "cat", "note":
		return false
	}
	return true
}

// typeOf is the type of a built-in head with operands of these types; api.None, if they do not fit.
func typeOf(head string, kinds []int) int {
	switch head {
	case "+", "-", "*", "/":
		return given(slices.Equal(kinds, []int{api.Number, api.Number}), api.Number)
	case "=", "<", "<=":
		return given(len(kinds) == 2 && kinds[0] == kinds[1], api.Truth)
	case "and", "or":
		return given(someOf(kinds, api.Truth), api.Truth)
	case "not":
		return given(slices.Equal(kinds, []int{api.Truth}), api.Truth)
	case "isnull":
		return given(len(kinds) == 1, api.Truth)
	case "if":
		if len(kinds) == 3 && kinds[0] == api.Truth && kinds[1] == kinds[2] {
			return kinds[1]
		}
	case "len":
		return given(slices.Equal(kinds, []int{api.Text}), api.Number)
	case "cat":
		return given(someOf(kinds, api.Text), api.Text)
	case "note":
		if len(kinds) == 1 {
			return kinds[0]
		}
	}
	return api.None
}

func given(fit bool, kind int) int {
	if fit {
		return kind
	}
	return api.None
}

// someOf tells whether there are one or more, all of this type.
func someOf(kinds []int, kind int) bool {
	other := func(k int) bool { return k != kind }
	return len(kinds) > 0 && !slices.ContainsFunc(kinds, other)
}
