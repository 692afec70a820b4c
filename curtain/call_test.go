package curtain

import (
	"slices"
	"strings"
	"testing"

	"curtain/api"
)

type call struct {
	args, body string
	in         []api.Cell
	want       api.Cell
	notes      []string
	err        api.Errno
}

func in(cells ...api.Cell) []api.Cell { return cells }

func notes(texts ...string) []string { return texts }

func wantCalls(t *testing.T, calls ...call) {
	t.Helper()
	for _, c := range calls {
		// A function behind it must not matter, nor a table beside it.
		b := api.Base{Funcs: []api.Func{fn("f", c.args, c.body), fn("g", "", "(note (/ 1 0))")}, Tables: []api.Table{people()}}
		got, told, e := Call(b, "me", "f", c.in)
		if got != c.want || !slices.Equal(told, c.notes) || e != c.err {
			t.Errorf("%s of %+v: %+v, %q, %d, want %+v, %q, %d", c.body, c.in, got, told, e, c.want, c.notes, c.err)
		}
	}
}

func TestCallOfDocument(t *testing.T) {
	half := "(if (= $1 0) (note 0) (/ 100 $1))"
	wantCalls(t,
		call{"n", half, in(num(0)), num(0), notes("0"), api.OK},
		call{"n", half, in(num(8)), num(12), nil, api.OK},
		call{"n", half, in(nothing), nothing, nil, api.OK})
}

func TestCallOfSingleTokens(t *testing.T) {
	wantCalls(t,
		call{"", "0", nil, num(0), nil, api.OK},
		call{"", "-1000000000", nil, num(-1000000000), nil, api.OK},
		call{"", "1000000000", nil, num(1000000000), nil, api.OK},
		call{"", "''", nil, txt(""), nil, api.OK},
		call{"", "' (a '", nil, txt(" (a "), nil, api.OK},
		call{"", "'true'", nil, txt("true"), nil, api.OK},
		call{"", "true", nil, yes(), nil, api.OK},
		call{"", "false", nil, no(), nil, api.OK},
		call{"", "user", nil, txt("me"), nil, api.OK},
		call{"ntbn", "$1", in(num(1), txt("a"), yes(), num(4)), num(1), nil, api.OK},
		call{"ntbn", "$2", in(num(1), txt("a"), yes(), num(4)), txt("a"), nil, api.OK},
		call{"ntbn", "$3", in(num(1), txt("a"), yes(), num(4)), yes(), nil, api.OK},
		call{"ntbn", "$4", in(num(1), txt("a"), yes(), num(4)), num(4), nil, api.OK},
		call{"ntbn", "$4", in(num(1), txt("a"), yes(), nothing), nothing, nil, api.OK})
}

func TestCallKnowsTheUser(t *testing.T) {
	b := withFuncs(fn("who", "", "(note user)"), fn("me", "", "(= (who) 'me')"))
	for _, user := range []string{"", "me", "you", "it's\xff\x00", strings.Repeat("u", 30)} {
		if got, told, e := Call(b, user, "who", nil); got != txt(user) || !slices.Equal(told, notes("'"+user+"'")) || e != api.OK {
			t.Errorf("the user %q is %+v, %q, %d", user, got, told, e)
		}
		want := no()
		if user == "me" {
			want = yes()
		}
		if got, _, e := Call(b, user, "me", nil); got != want || e != api.OK {
			t.Errorf("the user %q is me: %+v, %d", user, got, e)
		}
	}
}

func calculation(head string, a, b int, want api.Cell, err api.Errno) call {
	return call{"nn", "(" + head + " $1 $2)", in(num(a), num(b)), want, nil, err}
}

func TestCallCalculates(t *testing.T) {
	const most = api.MaxNumber
	wantCalls(t,
		calculation("+", 2, 3, num(5), api.OK), calculation("+", 2, -3, num(-1), api.OK),
		calculation("+", most, 0, num(most), api.OK), calculation("+", most-1, 1, num(most), api.OK), calculation("+", most, 1, nothing, api.Over), calculation("+", most, most, nothing, api.Over),
		calculation("+", -most+1, -1, num(-most), api.OK), calculation("+", -most, -1, nothing, api.Over), calculation("+", -most, most, num(0), api.OK),
		calculation("-", 2, 3, num(-1), api.OK), calculation("-", 3, 2, num(1), api.OK),
		calculation("-", 0, most, num(-most), api.OK), calculation("-", -1, most, nothing, api.Over), calculation("-", 1, -most, nothing, api.Over), calculation("-", -most, 1, nothing, api.Over), calculation("-", most, most, num(0), api.OK),
		calculation("*", 6, 7, num(42), api.OK), calculation("*", -6, 7, num(-42), api.OK), calculation("*", -6, -7, num(42), api.OK), calculation("*", 0, most, num(0), api.OK),
		calculation("*", 31622, 31622, num(999950884), api.OK), calculation("*", 31623, 31623, nothing, api.Over), calculation("*", 500000000, 2, num(most), api.OK), calculation("*", 500000000, -2, num(-most), api.OK),
		calculation("*", 500000001, 2, nothing, api.Over), calculation("*", -500000001, 2, nothing, api.Over), calculation("*", most, most, nothing, api.Over), calculation("*", most, -most, nothing, api.Over), calculation("*", -most, -most, nothing, api.Over),
		calculation("/", 7, 2, num(3), api.OK), calculation("/", -7, 2, num(-3), api.OK), calculation("/", 7, -2, num(-3), api.OK), calculation("/", -7, -2, num(3), api.OK), calculation("/", 1, 2, num(0), api.OK), calculation("/", -1, 2, num(0), api.OK),
		calculation("/", most, 1, num(most), api.OK), calculation("/", most, -1, num(-most), api.OK), calculation("/", -most, -1, num(most), api.OK), calculation("/", 0, 5, num(0), api.OK),
		calculation("/", 5, 0, nothing, api.Zero), calculation("/", 0, 0, nothing, api.Zero), calculation("/", -5, 0, nothing, api.Zero))
	for _, head := range []string{"+", "-", "*", "/"} {
		body := "(" + head + " (note $1) (note $2))"
		wantCalls(t,
			call{"nn", body, in(nothing, num(5)), nothing, notes("-", "5"), api.OK},
			call{"nn", body, in(num(5), nothing), nothing, notes("5", "-"), api.OK},
			call{"nn", body, in(nothing, num(0)), nothing, notes("-", "0"), api.OK},
			call{"nn", body, in(nothing, nothing), nothing, notes("-", "-"), api.OK})
	}
}

func TestCallCompares(t *testing.T) {
	rising := map[string][]api.Cell{
		"n": {num(-api.MaxNumber), num(-10), num(-9), num(-1), num(0), num(1), num(9), num(10), num(api.MaxNumber)},
		"t": {txt(""), txt("\x00"), txt("\n"), txt(" "), txt("10"), txt("9"), txt("Z"), txt("a"), txt("a\x00"), txt("aa"), txt("ab"), txt("b"), txt("é"), txt("\xff")},
		"b": {no(), yes()},
	}
	truth := func(is bool) api.Cell {
		if is {
			return yes()
		}
		return no()
	}
	for letter, list := range rising {
		for i, x := range list {
			for j, y := range list {
				wantCalls(t,
					call{letter + letter, "(= $1 $2)", in(x, y), truth(i == j), nil, api.OK},
					call{letter + letter, "(< $1 $2)", in(x, y), truth(i < j), nil, api.OK},
					call{letter + letter, "(<= $1 $2)", in(x, y), truth(i <= j), nil, api.OK})
			}
			for _, head := range []string{"=", "<", "<="} {
				body := "(" + head + " $1 $2)"
				wantCalls(t,
					call{letter + letter, body, in(x, nothing), nothing, nil, api.OK},
					call{letter + letter, body, in(nothing, x), nothing, nil, api.OK},
					call{letter + letter, body, in(nothing, nothing), nothing, nil, api.OK})
			}
		}
	}
}

func TestCallAnd(t *testing.T) {
	wantCalls(t,
		call{"b", "(and $1)", in(yes()), yes(), nil, api.OK}, call{"b", "(and $1)", in(no()), no(), nil, api.OK}, call{"b", "(and $1)", in(nothing), nothing, nil, api.OK},
		call{"", "(and (note true) (note true) (note true))", nil, yes(), notes("true", "true", "true"), api.OK},
		call{"", "(and (note true) (note false) (note true))", nil, no(), notes("true", "false"), api.OK},
		call{"b", "(and (note $1) (note true))", in(nothing), nothing, notes("-", "true"), api.OK},
		call{"b", "(and (note true) (note $1))", in(nothing), nothing, notes("true", "-"), api.OK},
		call{"b", "(and (note $1) (note false) (note true))", in(nothing), no(), notes("-", "false"), api.OK},
		call{"b", "(and (note true) (note $1) (note $1) (note true))", in(nothing), nothing, notes("true", "-", "-", "true"), api.OK},
		call{"", "(and false (= 1 (/ 1 0)))", nil, no(), nil, api.OK},
		call{"", "(and true (= 1 (/ 1 0)))", nil, nothing, nil, api.Zero},
		call{"b", "(and (note $1) (= (note 1) (/ 1 0)) (note false))", in(nothing), nothing, notes("-", "1"), api.Zero})
}

func TestCallOr(t *testing.T) {
	wantCalls(t,
		call{"b", "(or $1)", in(yes()), yes(), nil, api.OK}, call{"b", "(or $1)", in(no()), no(), nil, api.OK}, call{"b", "(or $1)", in(nothing), nothing, nil, api.OK},
		call{"", "(or (note false) (note false) (note false))", nil, no(), notes("false", "false", "false"), api.OK},
		call{"", "(or (note false) (note true) (note false))", nil, yes(), notes("false", "true"), api.OK},
		call{"b", "(or (note $1) (note false))", in(nothing), nothing, notes("-", "false"), api.OK},
		call{"b", "(or (note false) (note $1))", in(nothing), nothing, notes("false", "-"), api.OK},
		call{"b", "(or (note $1) (note true) (note false))", in(nothing), yes(), notes("-", "true"), api.OK},
		call{"b", "(or (note false) (note $1) (note $1) (note false))", in(nothing), nothing, notes("false", "-", "-", "false"), api.OK},
		call{"", "(or true (= 1 (/ 1 0)))", nil, yes(), nil, api.OK},
		call{"", "(or false (= 1 (/ 1 0)))", nil, nothing, nil, api.Zero},
		call{"b", "(or (note $1) (= (note 1) (/ 1 0)) (note true))", in(nothing), nothing, notes("-", "1"), api.Zero})
}

func TestCallNotIsnullLen(t *testing.T) {
	wantCalls(t,
		call{"b", "(not $1)", in(yes()), no(), nil, api.OK}, call{"b", "(not $1)", in(no()), yes(), nil, api.OK}, call{"b", "(not (note $1))", in(nothing), nothing, notes("-"), api.OK},
		call{"b", "(not (= (note 1) (/ 1 0)))", in(yes()), nothing, notes("1"), api.Zero},
		call{"n", "(isnull $1)", in(num(0)), no(), nil, api.OK}, call{"t", "(isnull $1)", in(txt("")), no(), nil, api.OK}, call{"b", "(isnull $1)", in(no()), no(), nil, api.OK},
		call{"n", "(isnull $1)", in(nothing), yes(), nil, api.OK}, call{"t", "(isnull $1)", in(nothing), yes(), nil, api.OK}, call{"b", "(isnull $1)", in(nothing), yes(), nil, api.OK},
		call{"n", "(isnull (+ (note $1) (note 2)))", in(nothing), yes(), notes("-", "2"), api.OK}, call{"n", "(isnull (isnull $1))", in(nothing), no(), nil, api.OK}, call{"", "(isnull (/ (note 1) 0))", nil, nothing, notes("1"), api.Zero},
		call{"t", "(len $1)", in(txt("")), num(0), nil, api.OK}, call{"t", "(len $1)", in(txt("abc")), num(3), nil, api.OK}, call{"t", "(len $1)", in(txt("é")), num(2), nil, api.OK},
		call{"t", "(len $1)", in(txt(strings.Repeat("\xff", 30))), num(30), nil, api.OK}, call{"t", "(len (note $1))", in(nothing), nothing, notes("-"), api.OK})
}

func TestCallIf(t *testing.T) {
	body := "(if (note $1) (note 1) (note 2))"
	wantCalls(t,
		call{"b", body, in(yes()), num(1), notes("true", "1"), api.OK}, call{"b", body, in(no()), num(2), notes("false", "2"), api.OK}, call{"b", body, in(nothing), num(2), notes("-", "2"), api.OK},
		call{"b", "(if $1 1 (/ 1 0))", in(yes()), num(1), nil, api.OK}, call{"b", "(if $1 (/ 1 0) 2)", in(no()), num(2), nil, api.OK}, call{"b", "(if $1 (/ 1 0) 2)", in(nothing), num(2), nil, api.OK},
		call{"b", "(if $1 (/ 1 0) 2)", in(yes()), nothing, nil, api.Zero}, call{"b", "(if $1 1 (/ 1 0))", in(nothing), nothing, nil, api.Zero},
		call{"n", "(if (= (note 3) (/ 1 0)) (note 1) (note 2))", in(num(1)), nothing, notes("3"), api.Zero},
		call{"bn", "(if $1 $2 5)", in(yes(), nothing), nothing, nil, api.OK}, call{"bt", "(if $1 'a' $2)", in(nothing, nothing), nothing, nil, api.OK}, call{"bt", "(if $1 'a' $2)", in(yes(), nothing), txt("a"), nil, api.OK})
}

func TestCallCat(t *testing.T) {
	x := func(n int) api.Cell { return txt(strings.Repeat("x", n)) }
	wantCalls(t,
		call{"t", "(cat $1)", in(txt("a")), txt("a"), nil, api.OK}, call{"t", "(cat $1)", in(txt("")), txt(""), nil, api.OK}, call{"t", "(cat $1)", in(nothing), nothing, nil, api.OK}, call{"t", "(cat $1)", in(x(30)), x(30), nil, api.OK},
		call{"tt", "(cat $2 ' ' $1 $2)", in(txt("it's\xff"), txt("b")), txt("b it's\xffb"), nil, api.OK},
		call{"tt", "(cat $1 $2)", in(x(15), x(15)), x(30), nil, api.OK}, call{"tt", "(cat $1 $2)", in(x(15), x(16)), nothing, nil, api.Long}, call{"tt", "(cat $1 $2)", in(x(30), x(0)), x(30), nil, api.OK},
		call{"tt", "(cat $1 $2)", in(x(30), x(1)), nothing, nil, api.Long}, call{"t", "(cat $1 $1 $1 $1)", in(x(30)), nothing, nil, api.Long},
		call{"tt", "(cat (note $1) $1 (note $2))", in(x(1), nothing), nothing, notes("'x'", "-"), api.OK}, call{"tt", "(cat $1 $1 $2)", in(x(30), nothing), nothing, nil, api.OK}, call{"tt", "(cat $2 $1 $1)", in(x(30), nothing), nothing, nil, api.OK},
		call{"tt", "(cat (note $1) (note $2) (note 'z'))", in(x(29), x(1)), nothing, notes("'"+strings.Repeat("x", 29)+"'", "'x'", "'z'"), api.Long},
		call{"", "(cat" + times(30, "'a'") + ")", nil, txt(strings.Repeat("a", 30)), nil, api.OK}, call{"", "(cat" + times(31, "'a'") + ")", nil, nothing, nil, api.Long})
}

func TestCallNotes(t *testing.T) {
	wantCalls(t,
		call{"n", "(note $1)", in(nothing), nothing, notes("-"), api.OK}, call{"n", "(note $1)", in(num(0)), num(0), notes("0"), api.OK},
		call{"n", "(note $1)", in(num(-1000000000)), num(-1000000000), notes("-1000000000"), api.OK}, call{"n", "(note $1)", in(num(1000000000)), num(1000000000), notes("1000000000"), api.OK},
		call{"t", "(note $1)", in(txt("")), txt(""), notes("''"), api.OK}, call{"t", "(note $1)", in(txt("it's\xff\x00\n-")), txt("it's\xff\x00\n-"), notes("'it's\xff\x00\n-'"), api.OK},
		call{"b", "(note $1)", in(yes()), yes(), notes("true"), api.OK}, call{"b", "(note $1)", in(no()), no(), notes("false"), api.OK},
		call{"", "(note (note (note 1)))", nil, num(1), notes("1", "1", "1"), api.OK},
		call{"", "(note (+ (note 1) (* (note 2) (note 3))))", nil, num(7), notes("1", "2", "3", "7"), api.OK},
		call{"", "(+ (note 1) (/ (note 2) 0))", nil, nothing, notes("1", "2"), api.Zero},
		call{"", "(+ (/ (note 2) 0) (note 1))", nil, nothing, notes("2"), api.Zero},
		call{"", "(note (/ 1 0))", nil, nothing, nil, api.Zero})
}

func TestTheFirstFaultCounts(t *testing.T) {
	zero, over, long := "(/ 1 0)", "(+ 1 1000000000)", "(len (cat"+times(31, "'a'")+"))"
	for _, c := range []struct {
		first, second string
		want          api.Errno
	}{{zero, over, api.Zero}, {over, zero, api.Over}, {long, zero, api.Long}, {zero, long, api.Zero}, {over, long, api.Over}, {long, over, api.Long}} {
		wantCalls(t,
			call{"", "(+ " + c.first + " " + c.second + ")", nil, nothing, nil, c.want},
			call{"n", "(+ $1 (- " + c.first + " " + c.second + "))", in(nothing), nothing, nil, c.want},
			call{"", "(and (isnull " + c.first + ") (isnull " + c.second + "))", nil, nothing, nil, c.want})
	}
	// That an operand is nothing does not keep the others from being worked out.
	wantCalls(t, call{"n", "(+ $1 (/ 1 0))", in(nothing), nothing, nil, api.Zero}, call{"n", "(= $1 (/ 1 0))", in(nothing), nothing, nil, api.Zero})
}

func TestCallThroughFunctions(t *testing.T) {
	b := withFuncs(
		fn("twice", "n", "(+ $1 $1)"),
		fn("swap", "nt", "(cat $2 (if (isnull $1) '?' '!'))"),
		fn("pick", "nb", "(if $2 (note $1) 0)"),
		fn("both", "n", "(+ (pick (note $1) true) (pick 2 (isnull $1)))"),
		fn("lost", "nn", "(isnull (twice $2))"),
		fn("keeps", "nn", "(- (twice $2) $1)"),
		fn("late", "n", "(pick (/ (note 8) $1) (= (note 'b') ''))"),
		fn("many", "", "(twice (twice (twice (note (twice 1)))))"))
	for _, c := range []struct {
		name  string
		in    []api.Cell
		want  api.Cell
		notes []string
		err   api.Errno
	}{
		{"swap", in(nothing, txt("a")), txt("a?"), nil, api.OK},
		{"swap", in(num(0), txt("a")), txt("a!"), nil, api.OK},
		{"swap", in(num(0), nothing), nothing, nil, api.OK},
		{"both", in(num(5)), num(5), notes("5", "5"), api.OK},
		{"both", in(nothing), nothing, notes("-", "-", "2"), api.OK},
		{"lost", in(num(1), nothing), yes(), nil, api.OK},
		{"lost", in(nothing, num(1)), no(), nil, api.OK},
		{"lost", in(nothing, num(api.MaxNumber)), nothing, nil, api.Over},
		{"keeps", in(num(1), num(10)), num(19), nil, api.OK},
		{"late", in(num(2)), num(0), notes("8", "'b'"), api.OK},
		{"late", in(num(0)), nothing, notes("8"), api.Zero},
		{"many", nil, num(16), notes("2"), api.OK},
	} {
		got, told, e := Call(b, "me", c.name, c.in)
		if got != c.want || !slices.Equal(told, c.notes) || e != c.err {
			t.Errorf("%s of %+v: %+v, %q, %d, want %+v, %q, %d", c.name, c.in, got, told, e, c.want, c.notes, c.err)
		}
	}
}

func wantCallError(t *testing.T, what string, b api.Base, user, name string, args []api.Cell, want api.Errno) {
	t.Helper()
	got, told, e := Call(b, user, name, args)
	if e != want {
		t.Errorf("Call with %s: %d, want %d", what, e, want)
	}
	if e != api.OK && (got != nothing || len(told) > 0) {
		t.Errorf("Call with %s answers %+v, %q beside an error", what, got, told)
	}
}

func TestCallErrorsOfArguments(t *testing.T) {
	b := withFuncs(fn("loud", "ntb", "(if (isnull (note $1)) (note $2) (note $2))"), fn("bare", "", "(note 1)"), fn("four", "nnnn", "$4"))
	right := in(num(1), txt("a"), yes())
	wantCallError(t, "right arguments", b, "me", "loud", right, api.OK)
	wantCallError(t, "no arguments where none are asked for", b, "me", "bare", []api.Cell{}, api.OK)
	wantCallError(t, "four", b, "me", "four", in(num(1), nothing, nothing, num(1)), api.OK)
	for _, args := range [][]api.Cell{nil, {}, right[:1], right[:2], append(slices.Clone(right), nothing), append(slices.Clone(right), yes()), make([]api.Cell, 1000000)} {
		wantCallError(t, "too few or too many", b, "me", "loud", args, api.ErrArg)
	}
	wantCallError(t, "one where none are asked for", b, "me", "bare", in(nothing), api.ErrArg)
	wantCallError(t, "five", b, "me", "four", make([]api.Cell, 5), api.ErrArg)
	byType, wrong := cells()
	for place, kind := range []int{api.Number, api.Text, api.Truth} {
		for other, list := range byType {
			want := api.ErrArg
			if other == kind || other == api.None {
				want = api.OK
			}
			for _, c := range list {
				args := slices.Clone(right)
				args[place] = c
				wantCallError(t, "another cell", b, "me", "loud", args, want)
			}
		}
		for _, c := range wrong {
			args := slices.Clone(right)
			args[place] = c
			wantCallError(t, "what is no cell", b, "me", "loud", args, api.ErrArg)
		}
	}
}

func TestTheFirstErrorOfACallCounts(t *testing.T) {
	long := strings.Repeat("u", api.MaxLong+1)
	right := withFuncs(fn("f", "n", "(note $1)"))
	wantCallError(t, "the longest user", right, long[1:], "f", in(num(1)), api.OK)
	wantCallError(t, "a longer user", right, long, "f", in(num(1)), api.ErrArg)
	wantCallError(t, "a far longer user", right, strings.Repeat("u", 1000000), "f", in(num(1)), api.ErrArg)
	for _, name := range []string{"", "g", "F", "note", "if", "+", "$1", "true"} {
		wantCallError(t, "no such function", right, "me", name, in(num(1)), api.ErrName)
		wantCallError(t, "no such function and no arguments", right, "me", name, nil, api.ErrName)
		wantCallError(t, "a longer user and no such function", right, long, name, nil, api.ErrArg)
		wantCallError(t, "a base of nothing", api.Base{}, "me", name, nil, api.ErrName)
	}
	for _, x := range inOrder() {
		b := rightBase()
		x.apply(&b)
		for _, name := range []string{"fifty", "small", "nosuch"} {
			wantCallError(t, "wrong "+x.field, b, "me", name, in(num(1)), x.err)
			wantCallError(t, "wrong "+x.field+" and what is no cell", b, "me", name, in(api.Cell{Kind: 9}), x.err)
			wantCallError(t, "a longer user and wrong "+x.field, b, long, name, in(num(1)), api.ErrArg)
		}
	}
}
