package typed

import (
	"reflect"
	"testing"

	"curtain/api"
)

func scope(t *testing.T) Scope {
	s := Scope{Columns: []Name{{"a.k", api.Number}, {"b.h", api.Truth}}, Params: []int{api.Number, api.Text}}
	body, bad := s.Read("(if (= $1 0) (note 0) (/ 100 $1))")
	if bad != api.OK {
		t.Fatalf("the body is wrong: %d", bad)
	}
	s.Funcs = append(s.Funcs, &Func{Name: "half", Args: []int{api.Number}, Body: body})
	return s
}

func TestReadTellsTypeSizeAndQuiet(t *testing.T) {
	s := scope(t)
	for _, c := range []struct {
		text       string
		kind, size int
		quiet      bool
	}{
		{"1", api.Number, 1, true}, {"'a'", api.Text, 1, true}, {"true", api.Truth, 1, true}, {"user", api.Text, 1, true}, {"a.k", api.Number, 1, true}, {"b.h", api.Truth, 1, true}, {"$2", api.Text, 1, true},
		{"(if (= $1 0) (note 0) (/ 100 $1))", api.Number, 9, false},
		{"(half a.k)", api.Number, 11, false},
		{"(= (len (if b.h 'a' $2)) 1)", api.Truth, 7, true},
		{"(and b.h b.h (isnull (half 1)))", api.Truth, 15, false},
	} {
		e, bad := s.Read(c.text)
		if bad != api.OK || e.Type != c.kind || e.Size != c.size || e.Quiet != c.quiet {
			t.Errorf("%s has the type %d, the size %d, is quiet: %t (%d); want %+v", c.text, e.Type, e.Size, e.Quiet, bad, c)
		}
	}
}

func TestReadTellsPlaces(t *testing.T) {
	s := scope(t)
	e, _ := s.Read("(if b.h (= $2 'x') (= a.k (half 5)))")
	if e.Sort != BuiltIn || e.Head != "if" || len(e.Operands) != 3 {
		t.Fatalf("the bracket is %+v", e)
	}
	if c := e.Operands[0]; c.Sort != Column || c.Place != 1 {
		t.Errorf("the column is %+v", c)
	}
	if p := e.Operands[1].Operands[0]; p.Sort != Parameter || p.Place != 1 {
		t.Errorf("the parameter is %+v", p)
	}
	if c := e.Operands[1].Operands[1]; c.Sort != Constant || c.Value.S != "x" {
		t.Errorf("the constant is %+v", c)
	}
	if c := e.Operands[2].Operands[1]; c.Sort != Call || c.Func != s.Funcs[0] {
		t.Errorf("the call is %+v", c)
	}
}

func TestReadAnswersNothingWithAnError(t *testing.T) {
	s := scope(t)
	s.Funcs = append(s.Funcs, &Func{Name: "large", Body: Expr{Type: api.Truth, Size: api.MaxSize - 1, Quiet: true}})
	for text, want := range map[string]api.Errno{
		"(": api.ErrText, "a.h": api.ErrName, "$3": api.ErrName, "(nosuch)": api.ErrName, "(half)": api.ErrType, "(half 'a')": api.ErrType, "(half $9)": api.ErrName,
		"(large)": api.OK, "(not (large))": api.ErrSize, "(note (not (large)))": api.ErrSize, "(not (large 1))": api.ErrType,
	} {
		e, bad := s.Read(text)
		if bad != want || bad != api.OK && !reflect.DeepEqual(e, Expr{}) {
			t.Errorf("Read(%q) = %+v, %d, want %d", text, e, bad, want)
		}
	}
}
