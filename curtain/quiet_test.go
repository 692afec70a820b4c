package curtain

import (
	"strings"
	"testing"

	"curtain/api"
)

func wantQuiet(t *testing.T, b api.Base, name string, want bool, wantErr api.Errno) {
	t.Helper()
	if got, e := Quiet(b, name); got != want || e != wantErr {
		t.Errorf("Quiet of %s in %+v: %t, %d, want %t, %d", name, b.Funcs, got, e, want, wantErr)
	}
}

func TestQuietOfEachHead(t *testing.T) {
	for body, want := range map[string]bool{
		"1": true, "'a'": true, "true": true, "false": true, "user": true, "$1": true,
		"(= 1 $1)": true, "(< 1 $1)": true, "(<= 1 $1)": true, "(and true)": true, "(or true)": true, "(not true)": true, "(isnull 1)": true, "(if true 1 2)": true, "(len 'a')": true,
		"(+ 1 1)": false, "(- 1 1)": false, "(* 1 1)": false, "(/ 1 1)": false, "(cat 'a')": false, "(note 1)": false,
		"'(+ 1 1)'": true, "'note'": true, "(isnull 'cat')": true,
	} {
		wantQuiet(t, withFuncs(fn("f", "n", body)), "f", want, api.OK)
	}
}

func TestQuietAsksEachOperand(t *testing.T) {
	for _, around := range []string{"(= _ 1)", "(= 1 _)", "(< _ 1)", "(<= 1 _)", "(and (= 1 _) true)", "(and true false (= 1 _))", "(or true (= 1 _))", "(not (= 1 _))", "(isnull _)",
		"(if (= _ 1) 1 2)", "(if true _ 2)", "(if true 1 _)", "(if false _ 2)", "(len (if true 'a' (if (= _ 1) 'b' 'c')))", "(= 1 (if true 1 (if true 1 (if true 1 _))))"} {
		wantQuiet(t, withFuncs(fn("f", "n", strings.ReplaceAll(around, "_", "$1"))), "f", true, api.OK)
		for _, loud := range []string{"(+ 1 1)", "(- 1 1)", "(* 0 0)", "(/ 4 2)", "(len (cat 'a'))", "(note 1)"} {
			wantQuiet(t, withFuncs(fn("f", "n", strings.ReplaceAll(around, "_", loud))), "f", false, api.OK)
		}
	}
}

func TestQuietThroughFunctions(t *testing.T) {
	b := withFuncs(
		fn("calm", "n", "(< $1 3)"),
		fn("loud", "n", "(+ $1 1)"),
		fn("calmer", "n", "(not (calm $1))"),
		fn("around", "n", "(isnull (loud $1))"),
		fn("never", "n", "(if false (around $1) true)"),
		fn("far", "n", "(and true (never $1))"),
		fn("operand", "n", "(calm (note $1))"),
		fn("calmest", "n", "(or (calmer $1) (calm 1))"))
	for name, want := range map[string]bool{"calm": true, "loud": false, "calmer": true, "around": false, "never": false, "far": false, "operand": false, "calmest": true} {
		wantQuiet(t, b, name, want, api.OK)
	}
}

func TestQuietErrors(t *testing.T) {
	right := withFuncs(fn("f", "n", "$1"))
	right.Tables = []api.Table{people()}
	wantQuiet(t, right, "f", true, api.OK)
	for _, name := range []string{"", "g", "F", "f ", "if", "and", "true", "people", "row", strings.Repeat("f", 100000)} {
		wantQuiet(t, right, name, false, api.ErrName)
		wantQuiet(t, api.Base{}, name, false, api.ErrName)
	}
	for _, x := range inOrder() {
		b := rightBase()
		x.apply(&b)
		for _, name := range []string{"fifty", "small", "", "nosuch"} {
			wantQuiet(t, b, name, false, x.err)
		}
	}
}
