package curtain

import (
	"regexp"
	"slices"
	"strings"
	"testing"

	"curtain/api"
)

func wantCheck(t *testing.T, what string, b api.Base, want api.Errno) {
	t.Helper()
	if e := Check(b); e != want {
		t.Errorf("Check of %s: %d, want %d", what, e, want)
	}
}

func wantBody(t *testing.T, args, body string, want api.Errno) {
	t.Helper()
	wantCheck(t, "the body "+body, withFuncs(fn("f", args, body)), want)
}

func wantPolicy(t *testing.T, policy string, want api.Errno) {
	t.Helper()
	x := people()
	x.Policy = policy
	wantCheck(t, "the policy "+policy, api.Base{Funcs: helpers(), Tables: []api.Table{x}}, want)
}

func wantTable(t *testing.T, what string, change func(x *api.Table), want api.Errno) {
	t.Helper()
	x := people()
	change(&x)
	wantCheck(t, "a table with "+what, withTables(x), want)
}

// helpers: fifty has, with its call, the size 50; small and even are quiet, loud and louder are not.
func helpers() []api.Func {
	return []api.Func{
		fn("fifty", "", "(and"+times(48, "true")+")"),
		fn("small", "n", "(< $1 5)"),
		fn("loud", "b", "(note $1)"),
		fn("louder", "b", "(not (loud $1))"),
		fn("even", "nb", "(or $2 (small $1))"),
	}
}

func TestCheckOfRightBases(t *testing.T) {
	wantCheck(t, "nothing", api.Base{}, api.OK)
	wantCheck(t, "lists of nothing", api.Base{Funcs: []api.Func{}, Tables: []api.Table{}}, api.OK)
	wantCheck(t, "functions", withFuncs(helpers()...), api.OK)
	wantCheck(t, "a table", withTables(people()), api.OK)
	wantBody(t, "n", "(if (= $1 0) (note 0) (/ 100 $1))", api.OK)
}

// rightBase has functions and tables that a test may break: none needs another one, but for fifty and small.
func rightBase() api.Base {
	places := people()
	places.Name = "places"
	places.Policy = "(small row.k)"
	return api.Base{
		Funcs:  append(helpers()[:2:2], fn("first", "n", "(+ $1 1)"), fn("second", "tb", "(and $2 (= $1 user))")),
		Tables: []api.Table{people(), places},
	}
}

// broken breaks one field of a base.
type broken struct {
	field string
	err   api.Errno
	apply func(b *api.Base)
}

// inOrder has ways to break a base, in the order in which they count.
func inOrder() []broken {
	list := []broken{
		{"funcs", api.ErrArg, func(b *api.Base) { b.Funcs = append(b.Funcs, make([]api.Func, 5)...) }},
		{"tables", api.ErrArg, func(b *api.Base) { b.Tables = append(b.Tables, make([]api.Table, 3)...) }},
	}
	for i, name := range []string{"first ", "second "} {
		put := func(field string, err api.Errno, change func(f *api.Func)) {
			list = append(list, broken{name + field, err, func(b *api.Base) { change(&b.Funcs[2+i]) }})
		}
		put("name", api.ErrName, func(f *api.Func) { f.Name = "note" })
		put("name", api.ErrName, func(f *api.Func) { f.Name = "small" })
		put("args", api.ErrArg, func(f *api.Func) { f.Args = "x" })
		put("args", api.ErrArg, func(f *api.Func) { f.Args = "nnnnn" })
		put("body", api.ErrText, func(f *api.Func) { f.Body = "(" })
		put("body", api.ErrName, func(f *api.Func) { f.Body = "(nosuch)" })
		put("body", api.ErrType, func(f *api.Func) { f.Body = "(and)" })
		put("body", api.ErrSize, func(f *api.Func) { f.Body = "(or" + times(6, "(fifty)") + ")" })
	}
	for i, name := range []string{"people ", "places "} {
		put := func(field string, err api.Errno, change func(x *api.Table)) {
			list = append(list, broken{name + field, err, func(b *api.Base) { change(&b.Tables[i]) }})
		}
		put("name", api.ErrName, func(x *api.Table) { x.Name = "People" })
		put("cols", api.ErrTable, func(x *api.Table) { x.Cols = nil })
		put("cols", api.ErrTable, func(x *api.Table) { x.Cols[0].Distinct = 0 })
		put("count", api.ErrTable, func(x *api.Table) { x.Count = -1 })
		put("rows", api.ErrTable, func(x *api.Table) { x.Rows[2] = nil })
		put("policy", api.ErrText, func(x *api.Table) { x.Policy = "" })
		put("policy", api.ErrName, func(x *api.Table) { x.Policy = "people.h" })
		put("policy", api.ErrType, func(x *api.Table) { x.Policy = "(= row.h row.k)" })
		put("policy", api.ErrSize, func(x *api.Table) { x.Policy = "(or" + times(6, "(fifty)") + ")" })
		put("policy", api.ErrPolicy, func(x *api.Table) { x.Policy = "row.k" })
		put("policy", api.ErrPolicy, func(x *api.Table) { x.Policy = "(note row.h)" })
	}
	return list
}

func TestTheFirstErrorOfABaseCounts(t *testing.T) {
	wantCheck(t, "a right base", rightBase(), api.OK)
	list := inOrder()
	for i, x := range list {
		one := rightBase()
		x.apply(&one)
		wantCheck(t, "a base with wrong "+x.field, one, x.err)
		for _, y := range list[i+1:] {
			// Of one field only one thing can be wrong at a time.
			if x.field == y.field {
				continue
			}
			both := rightBase()
			y.apply(&both)
			x.apply(&both)
			wantCheck(t, "a base with wrong "+x.field+" and "+y.field, both, x.err)
		}
	}
}

func TestCheckCountsFunctionsAndTables(t *testing.T) {
	var funcs []api.Func
	var tables []api.Table
	for _, name := range strings.Split("abcdefgh", "") {
		funcs = append(funcs, fn(name, "", "1"))
	}
	for _, name := range strings.Split("abcd", "") {
		x := people()
		x.Name = name
		tables = append(tables, x)
	}
	more := people()
	wantCheck(t, "8 functions and 4 tables", api.Base{Funcs: funcs, Tables: tables}, api.OK)
	wantCheck(t, "9 functions", withFuncs(append(funcs, fn("i", "", "1"))...), api.ErrArg)
	wantCheck(t, "5 tables", withTables(append(tables, more)...), api.ErrArg)
	wantCheck(t, "5 tables, and a wrong function", api.Base{Funcs: []api.Func{fn("", "", "")}, Tables: append(tables, more)}, api.ErrArg)
	wantCheck(t, "many functions", withFuncs(make([]api.Func, 100000)...), api.ErrArg)
	wantCheck(t, "many tables", withTables(make([]api.Table, 100000)...), api.ErrArg)
}

func TestCheckOfFunctionNames(t *testing.T) {
	for _, name := range []string{"a", "z9", "twelvebytes1", "row", "n", "true1", "nots", "select"} {
		wantCheck(t, "a function "+name, withFuncs(fn(name, "", "1")), api.OK)
	}
	for _, name := range []string{"", " ", "a ", " a", "A", "aB", "1", "1a", "a.b", "$1", "'a'", "+", "-", "*", "/", "=", "<", "<=", "(", "é", "a\x00", "thirteenbytes", strings.Repeat("a", 100000),
		"true", "false", "user", "and", "or", "not", "isnull", "if", "len", "cat", "note"} {
		wantCheck(t, "a function "+name, withFuncs(fn(name, "x", "(")), api.ErrName)
		wantCheck(t, "a function "+name, withFuncs(fn(name, "", "1")), api.ErrName)
	}
	wantCheck(t, "two functions of one name", withFuncs(fn("a", "", "1"), fn("b", "", "1"), fn("a", "n", "$1")), api.ErrName)
	wantCheck(t, "two functions of one name, the latter wrong", withFuncs(fn("a", "", "1"), fn("a", "x", "(")), api.ErrName)
}

func TestCheckOfArguments(t *testing.T) {
	for _, args := range []string{"", "n", "t", "b", "ntb", "nnnn", "bbtt"} {
		wantBody(t, args, "1", api.OK)
	}
	for _, args := range []string{"x", "N", " ", "n ", "n,t", "nx", "xn", "nnnnn", "ntbnt", "é", "\x00", strings.Repeat("n", 100000)} {
		wantBody(t, args, "1", api.ErrArg)
		wantBody(t, args, "(", api.ErrArg)
	}
}

func TestCheckKnowsParameters(t *testing.T) {
	wantBody(t, "nnnn", "(+ (+ $1 $2) (+ $3 $4))", api.OK)
	wantBody(t, "nnnn", "$5", api.ErrName)
	wantBody(t, "nn", "$2", api.OK)
	wantBody(t, "nn", "$3", api.ErrName)
	wantBody(t, "", "$1", api.ErrName)
	wantBody(t, "n", "$9", api.ErrName)
	wantBody(t, "ntb", "(if $3 (cat $2) (cat 'a'))", api.OK)
	wantBody(t, "ntb", "(if $3 $2 $1)", api.ErrType)
	wantBody(t, "ntb", "(len $1)", api.ErrType)
	wantPolicy(t, "$1", api.ErrName)
	wantPolicy(t, "(isnull $1)", api.ErrName)
}

func TestCheckKnowsFunctionsAheadAlone(t *testing.T) {
	wantCheck(t, "a call of one ahead", withFuncs(fn("a", "n", "$1"), fn("b", "", "(a 1)")), api.OK)
	wantCheck(t, "a call of one behind", withFuncs(fn("b", "", "(a 1)"), fn("a", "n", "$1")), api.ErrName)
	wantCheck(t, "a call of itself", withFuncs(fn("a", "n", "(a $1)")), api.ErrName)
	wantCheck(t, "a call of itself, never reached", withFuncs(fn("a", "n", "(if true $1 (a $1))")), api.ErrName)
	wantCheck(t, "a call with too few", withFuncs(fn("a", "nt", "$1"), fn("b", "", "(a 1)")), api.ErrType)
	wantCheck(t, "a call with too many", withFuncs(fn("a", "nt", "$1"), fn("b", "", "(a 1 '' 1)")), api.ErrType)
	wantCheck(t, "a call with others", withFuncs(fn("a", "nt", "$1"), fn("b", "", "(a '' 1)")), api.ErrType)
	wantCheck(t, "a call that is of the body's type", withFuncs(fn("a", "nt", "$2"), fn("b", "", "(len (a 1 user))")), api.OK)
	wantCheck(t, "a call that is not of the body's type", withFuncs(fn("a", "nt", "$1"), fn("b", "", "(len (a 1 user))")), api.ErrType)
	wantCheck(t, "a call without arguments", withFuncs(fn("a", "", "1"), fn("b", "", "(+ (a) (a))")), api.OK)
	wantPolicy(t, "(even row.k row.h)", api.OK)
}

func TestCheckKnowsColumns(t *testing.T) {
	for _, body := range []string{"row.k", "people.k", "k.k", "(isnull row.h)"} {
		wantBody(t, "n", body, api.ErrName)
	}
	for _, policy := range []string{"row.h", "(isnull row.k)", "(= row.s user)", "(< (len row.s) row.k)", "(= 'x' row.s)"} {
		wantPolicy(t, policy, api.OK)
	}
	for _, policy := range []string{"people.h", "row.x", "row.people", "h.row", "rows.h", "row.hh"} {
		wantPolicy(t, policy, api.ErrName)
	}
	for _, policy := range []string{"(not row.k)", "(= row.k row.s)", "(len row.h)"} {
		wantPolicy(t, policy, api.ErrType)
	}
}

func TestTheFirstErrorOfAnExpressionCounts(t *testing.T) {
	for body, want := range map[string]api.Errno{
		"":                                api.ErrText,
		"(nosuch":                         api.ErrText,
		"(and) (":                         api.ErrText,
		"x":                               api.ErrText,
		"(nosuch)":                        api.ErrName,
		"(nosuch (and))":                  api.ErrType,
		"(nosuch $9 (and))":               api.ErrName,
		"(nosuch (and) $9)":               api.ErrType,
		"(and $9)":                        api.ErrName,
		"(and 1 $9)":                      api.ErrName,
		"(+ 'a' a.b)":                     api.ErrName,
		"(+ (len 1) a.b)":                 api.ErrType,
		"(+ a.b (len 1))":                 api.ErrName,
		"(+ (nosuch) (len 1))":            api.ErrName,
		"(+ (nosuch (len 1)) 1)":          api.ErrType,
		"(if (and) (nosuch) 1)":           api.ErrType,
		"(if 1 (nosuch) 'a')":             api.ErrName,
		"(if 1 2 'a')":                    api.ErrType,
		"(if true 1 (if true 'a' $2))":    api.ErrName,
		"(note (note (note (nosuch))))":   api.ErrName,
		"(= (= 1 1) (= 1 1))":             api.OK,
		"(= (= 1 'a') $9)":                api.ErrType,
		"(isnull (isnull (isnull user)))": api.OK,
	} {
		wantBody(t, "n", body, want)
	}
	large := times(6, "(fifty)")
	wantPolicy(t, "(or"+large+" $1)", api.ErrName)
	wantPolicy(t, "(or"+large+" 1)", api.ErrType)
	wantPolicy(t, "(or"+large, api.ErrText)
	wantPolicy(t, "(or"+large+")", api.ErrSize)
	wantPolicy(t, "(note (or"+large+"))", api.ErrSize)
	wantPolicy(t, "(if (or"+large+") 1 2)", api.ErrSize)
	wantPolicy(t, "(note (len 1))", api.ErrType)
}

func TestCheckOfEachHead(t *testing.T) {
	fits := map[string]string{
		"+": "nn", "-": "nn", "*": "nn", "/": "nn", "=": "nn|tt|bb", "<": "nn|tt|bb", "<=": "nn|tt|bb", "and": "b+", "or": "b+", "not": "b",
		"isnull": "n|t|b", "if": "bnn|btt|bbb", "len": "t", "cat": "t+", "note": "n|t|b", "fun": "ntb", "none": "",
	}
	typeOf := func(head, operands string) string {
		switch head {
		case "+", "-", "*", "/", "len", "none":
			return "n"
		case "cat", "fun":
			return "t"
		case "if", "note":
			return operands[len(operands)-1:]
		}
		return "b"
	}
	words := map[rune]string{'n': " 1", 't': " 'a'", 'b': " true"}
	var try func(head, operands, text string)
	try = func(head, operands, text string) {
		right := regexp.MustCompile("^(" + fits[head] + ")$").MatchString(operands)
		for letter, word := range words {
			body := "(= (" + head + text + ")" + word + ")"
			want := api.ErrType
			if right && typeOf(head, operands) == string(letter) {
				want = api.OK
			}
			wantCheck(t, body, withFuncs(fn("fun", "ntb", "$2"), fn("none", "", "1"), fn("f", "", body)), want)
		}
		for letter, word := range words {
			if len(operands) < 4 {
				try(head, operands+string(letter), text+word)
			}
		}
	}
	for head := range fits {
		try(head, "", "")
	}
	wantBody(t, "", "(and"+times(70, "true")+")", api.OK)
	wantBody(t, "", "(and"+times(70, "true")+" 1)", api.ErrType)
	wantBody(t, "", "(cat"+times(70, "'a'")+")", api.OK)
	wantBody(t, "", "(+ 1 2 3)", api.ErrType)
}

func TestCheckOfSizes(t *testing.T) {
	wantPolicy(t, "(or"+times(5, "(fifty)")+times(49, "true")+")", api.OK)
	wantPolicy(t, "(or"+times(5, "(fifty)")+times(50, "true")+")", api.ErrSize)
	sized := func(body string, want api.Errno) {
		t.Helper()
		wantCheck(t, body, withFuncs(append(helpers(), fn("f", "nt", body))...), want)
	}
	sized("(or"+times(5, "(fifty)")+times(49, "true")+")", api.OK)
	sized("(or"+times(5, "(fifty)")+times(50, "true")+")", api.ErrSize)
	// Each sort of single token counts 1, each bracket 1, and a function its body beside its operands.
	fifties := times(5, "(fifty)")
	for _, one := range []string{"(isnull 1)", "(isnull 'a')", "(isnull $1)", "(isnull $2)", "(isnull user)", "(isnull true)", "(isnull -1)"} {
		sized("(or"+fifties+times(24, one)+" true)", api.OK)
		sized("(or"+fifties+times(24, one)+" true true)", api.ErrSize)
	}
	wantPolicy(t, "(or"+fifties+times(49, "row.h")+")", api.OK)
	wantPolicy(t, "(or"+fifties+times(50, "row.h")+")", api.ErrSize)
	// (small 1) has the size 1 + 1 + 3, (even 1 true) 1 + 2 + (1 + 1 + (1 + 1 + 3)).
	sized("(or"+fifties+times(9, "(small 1)")+times(4, "true")+")", api.OK)
	sized("(or"+fifties+times(9, "(small 1)")+times(5, "true")+")", api.ErrSize)
	sized("(or"+fifties+times(4, "(even 1 true)")+times(9, "true")+")", api.OK)
	sized("(or"+fifties+times(4, "(even 1 true)")+times(10, "true")+")", api.ErrSize)
}

func TestCheckOfTexts(t *testing.T) {
	wantBody(t, "", "1"+strings.Repeat(" ", 399), api.OK)
	wantBody(t, "", "1"+strings.Repeat(" ", 400), api.ErrText)
	wantPolicy(t, "true"+strings.Repeat(" ", 396), api.OK)
	wantPolicy(t, "true"+strings.Repeat(" ", 397), api.ErrText)
	deep := func(n int) string { return strings.Repeat("(not ", n) + "true" + strings.Repeat(")", n) }
	wantBody(t, "", deep(20), api.OK)
	wantBody(t, "", deep(21), api.ErrText)
	wantPolicy(t, deep(20), api.OK)
	wantPolicy(t, deep(21), api.ErrText)
	wantBody(t, "", "1000000000", api.OK)
	wantBody(t, "", "1000000001", api.ErrText)
	wantBody(t, "", "'"+strings.Repeat("x", 31)+"'", api.ErrText)
	wantBody(t, "", strings.Repeat("(", 1000000), api.ErrText)
	wantBody(t, "", " (  isnull\t(\n+ 1 2) ) ", api.OK)
}

func TestCheckOfTableNames(t *testing.T) {
	for _, name := range []string{"a", "twelvebytes1", "true", "user", "and", "row", "note"} {
		wantTable(t, "the name "+name, func(x *api.Table) { x.Name = name }, api.OK)
	}
	for _, name := range []string{"", "A", "1", "a b", "a.b", "thirteenbytes", "é"} {
		wantTable(t, "the name "+name, func(x *api.Table) { x.Name = name }, api.ErrName)
		wantTable(t, "the name "+name+" and no columns", func(x *api.Table) { x.Name = name; x.Cols = nil; x.Policy = "" }, api.ErrName)
	}
	other := people()
	other.Name = "other"
	wantCheck(t, "two tables", withTables(people(), other), api.OK)
	wantCheck(t, "two tables of one name", withTables(people(), other, people()), api.ErrName)
	wantCheck(t, "a table with a function's name", api.Base{Funcs: []api.Func{fn("people", "", "1")}, Tables: []api.Table{people()}}, api.OK)
}

func TestCheckOfColumns(t *testing.T) {
	for _, name := range []string{"a", "twelvebytes1", "true", "user", "and", "row", "people"} {
		wantTable(t, "a column "+name, func(x *api.Table) { x.Cols[0].Name = name }, api.OK)
	}
	for _, name := range []string{"", "A", "1", "row.k", "thirteenbytes", "s", "h", " k"} {
		wantTable(t, "a column "+name, func(x *api.Table) { x.Cols[0].Name = name }, api.ErrTable)
	}
	for _, letter := range []string{"", "x", "N", "nn", "nt", " ", "n ", "\x00", "number"} {
		wantTable(t, "the type "+letter, func(x *api.Table) { x.Cols[0].Type = letter; x.Rows = nil }, api.ErrTable)
	}
	for _, letter := range []string{"n", "t", "b"} {
		wantTable(t, "the type "+letter, func(x *api.Table) { x.Cols[0].Type = letter; x.Rows = nil }, api.OK)
	}
	for distinct, want := range map[int]api.Errno{1: api.OK, 0: api.ErrTable, -1: api.ErrTable, api.MaxCount: api.OK, api.MaxCount + 1: api.ErrTable, 1 << 62: api.ErrTable, -1 << 63: api.ErrTable} {
		wantTable(t, "some Distinct", func(x *api.Table) { x.Cols[2].Distinct = distinct }, want)
	}
	wide := func(n int) func(x *api.Table) {
		return func(x *api.Table) {
			x.Cols, x.Rows, x.Policy = nil, nil, "true"
			for i := range n {
				x.Cols = append(x.Cols, col("c"+string(rune('0'+i)), "n"))
			}
		}
	}
	for n, want := range []api.Errno{api.ErrTable, api.OK, api.OK, api.OK, api.OK, api.ErrTable} {
		wantTable(t, "other columns", wide(n), want)
	}
	wantTable(t, "many columns", func(x *api.Table) { x.Cols = make([]api.Column, 1000000) }, api.ErrTable)
	wantTable(t, "columns without rows", func(x *api.Table) { x.Cols, x.Rows = nil, [][]api.Cell{} }, api.ErrTable)
}

func TestCheckOfCounts(t *testing.T) {
	for count, want := range map[int]api.Errno{0: api.OK, 1: api.OK, -1: api.ErrTable, api.MaxCount: api.OK, api.MaxCount + 1: api.ErrTable, 1 << 62: api.ErrTable, -1 << 63: api.ErrTable} {
		wantTable(t, "some Count", func(x *api.Table) { x.Count = count }, want)
	}
}

func TestCheckOfRows(t *testing.T) {
	right := people().Rows[0]
	for n, want := range map[int]api.Errno{0: api.OK, 1: api.OK, api.MaxRows: api.OK, api.MaxRows + 1: api.ErrTable, 1000000: api.ErrTable} {
		wantTable(t, "some rows", func(x *api.Table) { x.Rows = slices.Repeat([][]api.Cell{right}, n) }, want)
	}
	for _, row := range [][]api.Cell{nil, {}, right[:1], right[:2], append(slices.Clone(right), nothing), append(slices.Clone(right), make([]api.Cell, 100000)...)} {
		wantTable(t, "a row of another length", func(x *api.Table) { x.Rows[2] = row }, api.ErrTable)
	}
}

// cells has, for each type, cells that are of it, and what is no cell at all.
func cells() (byType map[int][]api.Cell, wrong []api.Cell) {
	return map[int][]api.Cell{
		api.None:   {nothing},
		api.Number: {num(0), num(1), num(-1), num(api.MaxNumber), num(-api.MaxNumber)},
		api.Text:   {txt(""), txt("a"), txt("it's\xff\x00\n"), txt(strings.Repeat("\xff", 30))},
		api.Truth:  {yes(), no()},
	}, []api.Cell{
		{N: 1}, {S: "x"}, {N: -1, S: "x"},
		num(api.MaxNumber + 1), num(-api.MaxNumber - 1), num(1 << 62), num(-1 << 63), {Kind: api.Number, N: 1, S: "x"}, {Kind: api.Number, S: " "},
		txt(strings.Repeat("x", 31)), txt(strings.Repeat("x", 100000)), {Kind: api.Text, N: 1}, {Kind: api.Text, N: -1, S: "x"},
		{Kind: api.Truth, N: 2}, {Kind: api.Truth, N: -1}, {Kind: api.Truth, N: 1, S: "true"}, {Kind: api.Truth, S: "x"},
		{Kind: 4}, {Kind: -1}, {Kind: 1 << 62}, {Kind: -1 << 63},
	}
}

func TestCheckOfCells(t *testing.T) {
	byType, wrong := cells()
	for place, kind := range []int{api.Number, api.Text, api.Truth} {
		for other, list := range byType {
			want := api.ErrTable
			if other == kind || other == api.None {
				want = api.OK
			}
			for _, c := range list {
				wantTable(t, "a cell", func(x *api.Table) { x.Rows[2][place] = c }, want)
			}
		}
		for _, c := range wrong {
			wantTable(t, "a cell that is none", func(x *api.Table) { x.Rows[2][place] = c }, api.ErrTable)
			wantTable(t, "a cell that is none, and no policy", func(x *api.Table) { x.Rows[0][place] = c; x.Policy = "" }, api.ErrTable)
		}
	}
}

func TestCheckOfPolicies(t *testing.T) {
	for _, policy := range []string{"true", "false", "row.h", "(small row.k)", "(= user 'me')", "(if row.h (isnull row.k) (< 0 (len row.s)))"} {
		wantPolicy(t, policy, api.OK)
	}
	for _, policy := range []string{"1", "'a'", "user", "row.k", "row.s", "(len row.s)", "(if row.h 1 2)",
		"(note row.h)", "(isnull (note 1))", "(= 1 (+ 1 row.k))", "(= 1 (- 1 row.k))", "(= 1 (* 1 row.k))", "(= 1 (/ 1 2))", "(= 'a' (cat 'a'))",
		"(loud true)", "(louder row.h)", "(if true row.h (loud row.h))", "(small (+ 1 1))", "(+ 1 1)"} {
		wantPolicy(t, policy, api.ErrPolicy)
	}
}

func TestCheckDoesNotAskForUsers(t *testing.T) {
	wantTable(t, "no users", func(x *api.Table) { x.Users = nil }, api.OK)
	wantTable(t, "any users", func(x *api.Table) { x.Users = []string{"", "a", "a", strings.Repeat("x", 1000)} }, api.OK)
}
