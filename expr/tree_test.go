package expr

import (
	"reflect"
	"strings"
	"testing"

	"curtain/api"
)

func single(kind Kind, text string) Tree {
	return Tree{Token: Token{Kind: kind, Text: text}}
}

func bracket(kind Kind, head string, operands ...Tree) Tree {
	return Tree{Token: Token{Kind: kind, Text: head}, Bracket: true, Operands: operands}
}

func TestParseTellsKindsAndOperands(t *testing.T) {
	for text, want := range map[string]Tree{
		"0":       single(Numeral, "0"),
		" -12\n":  single(Numeral, "-12"),
		"'- a ('": single(Quote, "'- a ('"),
		"a.b1":    single(Column, "a.b1"),
		"$9":      single(Parameter, "$9"),
		"user":    single(Word, "user"),
		"(f)":     bracket(Word, "f"),
		"(- -1)":  bracket(Operator, "-", single(Numeral, "-1")),
		"(and(<= a.b 1)true(f))": bracket(Word, "and",
			bracket(Operator, "<=", single(Column, "a.b"), single(Numeral, "1")),
			single(Word, "true"),
			bracket(Word, "f")),
	} {
		got, e := Parse(text)
		if e != api.OK || !reflect.DeepEqual(got, want) {
			t.Errorf("Parse(%q) = %v, %d, want %v", text, got, e, want)
		}
	}
}

func TestParseAnswersNoTreeWithAnError(t *testing.T) {
	for _, text := range []string{"", "(", ")", "()", "(f", "(f 1 (g)", "(f 1) 2", "x", "'", "(f ')", "\xff", strings.Repeat("(f ", 21) + strings.Repeat(")", 21), strings.Repeat(" ", 401)} {
		got, e := Parse(text)
		if e != api.ErrText || !reflect.DeepEqual(got, Tree{}) {
			t.Errorf("Parse(%q) = %v, %d, want ErrText", text, got, e)
		}
	}
}

func TestStringIsReadAsTheSameTree(t *testing.T) {
	for _, text := range []string{"1", "(f)", "( f(g 'a  b')  $1\t(- -1 a.b))"} {
		first, _ := Parse(text)
		second, e := Parse(first.String())
		if e != api.OK || !reflect.DeepEqual(first, second) {
			t.Errorf("%q is read as %v, and tidy as %v, %d", text, first, second, e)
		}
	}
}
