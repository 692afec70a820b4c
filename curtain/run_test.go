package curtain

import (
	"fmt"
	"math"
	"slices"
	"strings"
	"testing"
	"testing/synctest"

	"curtain/api"
)

func shownCell(c api.Cell) string {
	switch c.Kind {
	case api.Number:
		return fmt.Sprint(c.N)
	case api.Text:
		return "'" + c.S + "'"
	case api.Truth:
		return fmt.Sprint(c.N == 1)
	}
	return "-"
}

// shown is an answer as a text: its rows, its notes, its fault.
func shown(a api.Answer) string {
	var rows []string
	for _, row := range a.Rows {
		var cells []string
		for _, c := range row {
			cells = append(cells, shownCell(c))
		}
		rows = append(rows, strings.Join(cells, " "))
	}
	return fmt.Sprintf("%s|%s|%d", strings.Join(rows, ","), strings.Join(a.Notes, " "), a.Fault)
}

func wantRun(t *testing.T, b api.Base, q api.Query, want string) {
	t.Helper()
	if a, e := Run(b, "me", q); shown(a) != want || e != api.OK {
		t.Errorf("Run of %+v: %s, %d, want %s", q, shown(a), e, want)
	}
}

// stock is a table with the columns k (n), s (t), h (b) and these rows, all of which are seen.
func stock(name string, count int, rows ...[]api.Cell) api.Table {
	x := people()
	x.Name, x.Count, x.Rows, x.Policy = name, count, rows, "true"
	return x
}

// numbers is a table like stock, of which the rows have these numbers in k.
func numbers(name string, count int, list ...int) api.Table {
	x := stock(name, count)
	for _, n := range list {
		x.Rows = append(x.Rows, in(num(n), txt(fmt.Sprint(name, n)), yes()))
	}
	return x
}

// ask asks for Outs, all rows, as they stand.
func ask(from []api.Item, where string, outs ...string) api.Query {
	return api.Query{From: from, Where: where, Outs: outs, Limit: -1}
}

func sortedBy(q api.Query, limit int, keys ...api.Key) api.Query {
	q.Order, q.Limit = keys, limit
	return q
}

func up(out int) api.Key { return api.Key{Out: out} }

func down(out int) api.Key { return api.Key{Out: out, Down: true} }

func TestRunOfDocument(t *testing.T) {
	x := api.Table{
		Name:   "a",
		Cols:   []api.Column{col("k", "n"), col("h", "b")},
		Rows:   [][]api.Cell{{num(1), yes()}, {num(2), no()}, {num(3), nothing}, {num(0), yes()}},
		Policy: "row.h",
		Users:  []string{"me"},
	}
	b := withTables(x)
	wantRun(t, b, ask(from("a"), "", "(/ 6 a.k)"), "||10")
	wantRun(t, b, ask(from("a"), "(< 0 a.k)", "(note a.k)"), "1|1|0")
	wantRun(t, b, ask(from("a"), "", "a.k", "a.h"), "1 true,0 true||0")
}

func TestRunOfOuts(t *testing.T) {
	b := saidBase(stock("a", 3, in(num(7), txt("it's"), yes()), in(nothing, nothing, nothing), in(num(-7), txt(""), no())), numbers("b", 3))
	wantRun(t, b, ask(from("a"), "", "a.k"), "7,-,-7||0")
	wantRun(t, b, ask(from("a"), "", "a.h", "a.s", "a.k", "a.h"), "true 'it's' 7 true,- - - -,false '' -7 false||0")
	wantRun(t, b, ask(from("a"), "", "user", "1", "'x'", "false"), "'me' 1 'x' false,'me' 1 'x' false,'me' 1 'x' false||0")
	wantRun(t, b, ask(from("a"), "", "(small a.k)", "(even a.k (isnull a.s))", "(cat a.s '!')"), "false false 'it's!',- true -,true true '!'||0")
	wantRun(t, b, ask(from("a"), "", "(loud a.h)", "(note (note a.s))", "(isnull (note a.k))"), "true 'it's' false,- - true,false '' false|true 'it's' 'it's' 7 - - - - false '' '' -7|0")
	wantRun(t, b, ask(from("b"), "", "(note b.k)", "(/ 1 0)"), "||0")
	// The part is asked with the plan's first item alone, which is a, and then b, of which there are no rows.
	wantRun(t, b, ask(from("a", "b"), "(note true)", "(note 1)"), "|true true true|0")
	wantRun(t, b, ask(from("b", "a"), "(note true)", "(note 1)"), "||0")
}

func TestRunKnowsTheUser(t *testing.T) {
	for _, user := range []string{"me", "", "it's", "\xff", strings.Repeat("u", api.MaxLong)} {
		x := stock("a", 3, in(num(1), txt(user), yes()), in(num(2), txt("she"), yes()), in(num(3), txt(user), no()))
		x.Policy, x.Users = "(= row.s user)", []string{"we", user}
		a, e := Run(withTables(x), user, ask(from("a"), "(= a.s user)", "a.k", "(note user)"))
		want := fmt.Sprintf("1 '%s',3 '%s'|'%s' '%s'|0", user, user, user, user)
		if shown(a) != want || e != api.OK {
			t.Errorf("Run for %q: %s, %d, want %s", user, shown(a), e, want)
		}
	}
}

func TestRunOfParts(t *testing.T) {
	b := saidBase(stock("a", 3, in(num(1), txt("x"), yes()), in(num(2), txt("y"), no()), in(num(3), nothing, nothing)))
	for where, want := range map[string]string{
		"": "1,2,3||0", "true": "1,2,3||0", "false": "||0", "a.h": "1||0", "(not a.h)": "2||0", "(isnull a.h)": "3||0", "(not (isnull a.s))": "1,2||0",
		"(= a.s 'y')": "2||0", "(< a.k 3)": "1,2||0", "(or a.h (isnull a.h))": "1,3||0", "(or a.h (< 2 a.k))": "1,3||0",
		"(and (< 1 a.k) (< a.k 3))": "2||0", "(and (and true (< 1 a.k)) true)": "2,3||0", "(and a.h (not a.h))": "||0", "(= (= a.k 1) a.h)": "1,2||0",
		"(note a.h)": "1|true false -|0", "(and (note a.h) (note true))": "1|true true false -|0", "(and (note true) (note a.h))": "1|true true true false true -|0",
		"(and (note a.h) (< a.k 3))": "1|true false|0", "(and (note (isnull a.s)) (note (< a.k 3)))": "|false false true false|0",
		"(and (louder a.h) (loud (= a.k 2)))": "2|true false true -|0", "(note (and a.h (note (= a.k 1))))": "1|true true false false false|0",
		"(note (or (note a.h) (note (= a.k 3))))": "1,3|true true false false false - true true|0",
	} {
		wantRun(t, b, ask(from("a"), where, "a.k"), want)
	}
}

func TestOutsAreWorkedOutOfRowsThatAreTold(t *testing.T) {
	b := saidBase(numbers("a", 3, 3, 0, 2))
	wantRun(t, b, ask(from("a"), "(< 0 a.k)", "(/ 6 (note a.k))"), "2,3|3 2|0")
	wantRun(t, b, ask(from("a"), "(< 2 (note a.k))", "(note 'out')"), "'out'|3 'out' 0 2|0")
	wantRun(t, b, ask(from("a"), "(and (< 0 a.k) (< 1 (/ 6 a.k)))", "(note (/ 6 a.k))"), "2,3|2 3|0")
}

func TestFaultsInOuts(t *testing.T) {
	b := saidBase(numbers("a", 3, 1, 2, 0, 5))
	b.Funcs = append(b.Funcs, fn("by", "n", "(/ 6 (note $1))"))
	long := "(cat 'fifteen bytes..' (if (= (note a.k) 0) 'fifteen and one.' 'fifteen bytes..'))"
	wantRun(t, b, ask(from("a"), "", "(/ 6 (note a.k))"), "|1 2 0|10")
	wantRun(t, b, ask(from("a"), "", "(by a.k)"), "|1 2 0|10")
	wantRun(t, b, ask(from("a"), "", "(* (note a.k) 500000001)"), "|1 2|11")
	wantRun(t, b, ask(from("a"), "", "(- (note (- 0 a.k)) 999999999)"), "|-1 -2|11")
	wantRun(t, b, ask(from("a"), "", long), "|1 2 0|12")
	wantRun(t, b, ask(from("a"), "", "(note 'x')", "(/ 1 a.k)", "(note a.k)"), "|'x' 1 'x' 2 'x'|10")
	wantRun(t, b, ask(from("a"), "", "(note (+ (note a.k) (note (/ 4 (note a.k)))))"), "|1 1 4 5 2 2 2 4 0 0|10")
	wantRun(t, b, ask(from("a"), "", "1", long, "(/ 1 0)"), "|1|10")
	wantRun(t, b, ask(from("a"), "", "(/ 1 0)", long), "||10")
	wantRun(t, b, ask(from("a"), "", "(* 1000000000 2)", "(/ 1 0)"), "||11")
	wantRun(t, b, ask(from("a"), "(< 0 a.k)", "(by a.k)"), "6,3,1|1 2 5|0")
	wantRun(t, b, ask(from("a"), "(< 0 (note a.k))", "(note (by a.k))"), "6,3,1|1 1 6 2 2 3 0 5 5 1|0")
}

func TestFaultsInParts(t *testing.T) {
	b := saidBase(numbers("a", 3, 1, 2, 0, 5))
	long := "(< '' (cat 'fifteen bytes..' (if (= (note a.k) 0) 'fifteen and one.' 'fifteen bytes..')))"
	wantRun(t, b, ask(from("a"), "(< 0 (/ 6 (note a.k)))", "(note 'out')"), "|1 'out' 2 'out' 0|10")
	wantRun(t, b, ask(from("a"), "(< 9 (/ 6 (note a.k)))", "(note 'out')"), "|1 2 0|10")
	wantRun(t, b, ask(from("a"), "(< 0 (* (note a.k) 500000001))", "a.k"), "|1 2|11")
	wantRun(t, b, ask(from("a"), long, "a.k"), "|1 2 0|12")
	wantRun(t, b, ask(from("a"), "(and (< 0 (/ 6 (note a.k))) (note (= a.k 1)))", "a.k"), "|1 true 2 false 0|10")
	wantRun(t, b, ask(from("a"), "(and (note (= a.k 1)) (< 0 (/ 6 a.k)))", "a.k"), "1|true false false false|0")
	wantRun(t, b, ask(from("a"), "(or (= a.k 0) (< 0 (/ 6 a.k)))", "a.k"), "1,2,0,5||0")
	// Quiet parts are asked first, so that they keep the others from faults.
	wantRun(t, b, ask(from("a"), "(and (< 0 (/ 6 a.k)) (< 0 a.k))", "a.k"), "1,2,5||0")
	wantRun(t, b, ask(from("a"), "(and (< 0 (/ 6 a.k)) (note (< 0 a.k)))", "a.k"), "|true true|10")
	// A part without items is asked with each row of the first item.
	wantRun(t, b, ask(from("a"), "(and (note true) (= 1 (/ 1 0)))", "a.k"), "|true|10")
	wantRun(t, b, ask(from("a"), "(and (note true) (= 1 (* 50000 50000)) (= 1 (/ 1 0)))", "a.k"), "|true|11")
	wantRun(t, b, ask(from("a"), "(and (= 1 (/ 1 0)) (= user 'you'))", "a.k"), "||0")
}

func TestFaultsOfLaterItems(t *testing.T) {
	b := saidBase(numbers("a", 100, 1, 0), numbers("b", 10, 3, 4), numbers("c", 1, 6))
	all := from("a", "b", "c")
	// c, b, a is the plan.
	wantRun(t, b, ask(all, "(and (note (< 3 b.k)) (< 0 (/ c.k (note a.k))))", "(note b.k)"), "|false true 1 4 0|10")
	wantRun(t, b, ask(all, "(and (< 0 (/ (note c.k) 0)) (< 0 (* (note a.k) 2)))", "1"), "|6|10")
	wantRun(t, b, ask(all, "(< (note b.k) 3)", "(/ 1 0)"), "|3 4|0")
	wantRun(t, b, ask(all, "", "(note b.k)", "(/ c.k a.k)"), "|3 3|10")
	// What is told does not hang on how many rows are asked for, nor on how they are sorted.
	for limit := range 3 {
		wantRun(t, b, sortedBy(ask(all, "", "(note b.k)", "(/ c.k a.k)"), limit, down(1)), "|3 3|10")
	}
}

func TestRowsStandByTheItemsOrder(t *testing.T) {
	b := saidBase(numbers("a", 100, 1, 2), numbers("b", 10, 30, 40), numbers("c", 1, 500, 600), numbers("d", 1000, 7000, 8000))
	sum := "(note (+ a.k b.k))"
	wantRun(t, b, ask(from("a", "b"), "", sum), "31,41,32,42|31 32 41 42|0")
	wantRun(t, b, ask(from("b", "a"), "", sum), "31,32,41,42|31 32 41 42|0")
	wantRun(t, b, ask(from("a", "b"), "(not (= 41 (+ a.k b.k)))", sum), "31,32,42|31 32 42|0")
	sum = "(note (+ c.k (+ a.k b.k)))"
	wantRun(t, b, ask(from("a", "b", "c"), "", sum), "531,631,541,641,532,632,542,642|531 532 541 542 631 632 641 642|0")
	wantRun(t, b, ask(from("b", "c", "a"), "", sum), "531,532,631,632,541,542,641,642|531 532 541 542 631 632 641 642|0")
	// As d is held to one value, it comes to 1 row, as c does.
	b.Tables[3].Cols[0].Distinct = 1000
	sum = "(note (+ d.k (+ c.k (+ a.k b.k))))"
	wantPlan(t, b, ask(from("a", "b", "c", "d"), "(= d.k 7000)", sum), steps(step(2), step(3, 0), step(1), step(0)))
	wantRun(t, b, ask(from("a", "b", "c", "d"), "(= d.k 7000)", sum), "7531,7631,7541,7641,7532,7632,7542,7642|7531 7532 7541 7542 7631 7632 7641 7642|0")
	// Rows stand by their numbers, not by what is in them.
	b = saidBase(numbers("a", 100, 9, 5, 7), numbers("b", 10, 4, 4, 1))
	wantRun(t, b, ask(from("a", "b"), "", "(note a.k)", "b.k"), "9 4,9 4,9 1,5 4,5 4,5 1,7 4,7 4,7 1|9 5 7 9 5 7 9 5 7|0")
}

func TestPartsAreAskedInThePlansOrder(t *testing.T) {
	b := saidBase(numbers("a", 100, 1, 2), numbers("b", 10, 1, 2, 3))
	q := ask(from("a", "b"), "(and (note (< a.k 2)) (note (< 1 b.k)))", "a.k", "b.k")
	wantPlan(t, b, q, steps(step(1, 1), step(0, 0)))
	wantRun(t, b, q, "1 2,1 3|false true true false true true false|0")
	b.Tables[0].Count = 1
	wantPlan(t, b, q, steps(step(0, 0), step(1, 1)))
	wantRun(t, b, q, "1 2,1 3|true false true true false|0")
	// One without items is asked with the plan's first item.
	q.Where = "(and (note a.h) (note true) (note b.h) (< b.k 2))"
	wantRun(t, b, q, "1 1,2 1|true true true true true true|0")
	b.Tables[0].Count = 100
	wantRun(t, b, q, "1 1,2 1|true true true true|0")
	// The whole condition is asked where both have a row.
	q.Where = "(note (and (= a.k b.k) (note (< a.k 2))))"
	wantRun(t, b, q, "1 1|true true false false false false false false|0")
}

func TestColumnsOfTablesUnlike(t *testing.T) {
	x := api.Table{Name: "a", Cols: []api.Column{col("one", "n")}, Rows: [][]api.Cell{in(num(1)), in(num(2))}, Count: 1, Policy: "true", Users: []string{"me"}}
	y := said("b", 1)
	y.Rows, y.Policy = [][]api.Cell{in(num(3), num(4), txt("five"), yes())}, "row.h"
	z := stock("c", 1, in(num(6), txt("seven"), no()))
	b := withTables(x, y, z)
	wantRun(t, b, ask(from("b", "a", "c"), "", "(+ b.m a.one)", "b.s", "c.k", "c.h"), "5 'five' 6 false,6 'five' 6 false||0")
	wantRun(t, b, ask(from("c", "a", "b", "a1"), "(< a.one a1.one)", "c.s", "a1.one", "b.k", "b.h"), "'seven' 2 3 true||0")
	wantRun(t, b, ask(from("a", "a1", "a2", "a3"), "(and (= a.one a1.one) (< a1.one a2.one))", "a.one", "a1.one", "a2.one", "a3.one"), "1 1 2 1,1 1 2 2||0")
}

func TestRunOfOneTableTwice(t *testing.T) {
	b := saidBase(numbers("a", 5, 1, 2, 3))
	wantRun(t, b, ask(from("a", "a1"), "(< a.k a1.k)", "a.k", "a1.k"), "1 2,1 3,2 3||0")
	wantRun(t, b, ask(from("a", "a1", "a2"), "(and (< a.k a1.k) (< a1.k a2.k))", "(note a1.s)"), "'a2'|'a2'|0")
}

func TestSortedRows(t *testing.T) {
	b := saidBase(stock("a", 3, in(num(2), txt("x"), yes()), in(nothing, txt("y"), no()), in(num(-1), txt("x"), nothing), in(num(2), nothing, no()), in(nothing, txt(""), yes()), in(num(10), txt("Z"), no())))
	q := ask(from("a"), "", "a.k", "a.s", "a.h")
	for _, c := range []struct {
		keys []api.Key
		want string
	}{
		{nil, "2 'x' true,- 'y' false,-1 'x' -,2 - false,- '' true,10 'Z' false||0"},
		{[]api.Key{up(0)}, "- 'y' false,- '' true,-1 'x' -,2 'x' true,2 - false,10 'Z' false||0"},
		{[]api.Key{down(0)}, "10 'Z' false,2 'x' true,2 - false,-1 'x' -,- 'y' false,- '' true||0"},
		{[]api.Key{up(1)}, "2 - false,- '' true,10 'Z' false,2 'x' true,-1 'x' -,- 'y' false||0"},
		{[]api.Key{down(1)}, "- 'y' false,2 'x' true,-1 'x' -,10 'Z' false,- '' true,2 - false||0"},
		{[]api.Key{up(2)}, "-1 'x' -,- 'y' false,2 - false,10 'Z' false,2 'x' true,- '' true||0"},
		{[]api.Key{down(2)}, "2 'x' true,- '' true,- 'y' false,2 - false,10 'Z' false,-1 'x' -||0"},
		{[]api.Key{up(0), up(1)}, "- '' true,- 'y' false,-1 'x' -,2 - false,2 'x' true,10 'Z' false||0"},
		{[]api.Key{up(0), down(1)}, "- 'y' false,- '' true,-1 'x' -,2 'x' true,2 - false,10 'Z' false||0"},
		{[]api.Key{down(0), up(1)}, "10 'Z' false,2 - false,2 'x' true,-1 'x' -,- '' true,- 'y' false||0"},
		{[]api.Key{down(2), down(0), up(1)}, "2 'x' true,- '' true,10 'Z' false,2 - false,- 'y' false,-1 'x' -||0"},
		{[]api.Key{up(2), up(2), down(2), up(1)}, "-1 'x' -,2 - false,10 'Z' false,- 'y' false,- '' true,2 'x' true||0"},
	} {
		wantRun(t, b, sortedBy(q, -1, c.keys...), c.want)
	}
}

func TestNothingIsBelowAll(t *testing.T) {
	b := saidBase(stock("a", 3, in(num(0), txt(""), no()), in(nothing, nothing, nothing), in(num(-api.MaxNumber), txt("\x00"), yes()), in(nothing, nothing, nothing)))
	for out, want := range []string{"-,-,-1000000000,0||0", "-,-,'','\x00'||0", "-,-,false,true||0"} {
		wantRun(t, b, sortedBy(ask(from("a"), "", []string{"a.k", "a.s", "a.h"}[out]), -1, up(0)), want)
	}
	for out, want := range []string{"0,-1000000000,-,-||0", "'\x00','',-,-||0", "true,false,-,-||0"} {
		wantRun(t, b, sortedBy(ask(from("a"), "", []string{"a.k", "a.s", "a.h"}[out]), -1, down(0)), want)
	}
}

func TestRowsThatAreAlikeStay(t *testing.T) {
	b := saidBase(numbers("a", 100, 1, 2, 3), numbers("b", 10, 1, 2, 3))
	q := ask(from("a", "b"), "", "(< a.k 3)", "a.k", "b.k")
	wantPlan(t, b, q, steps(step(1), step(0)))
	wantRun(t, b, sortedBy(q, -1, up(0)), "false 3 1,false 3 2,false 3 3,true 1 1,true 1 2,true 1 3,true 2 1,true 2 2,true 2 3||0")
	wantRun(t, b, sortedBy(q, -1, down(0)), "true 1 1,true 1 2,true 1 3,true 2 1,true 2 2,true 2 3,false 3 1,false 3 2,false 3 3||0")
	wantRun(t, b, sortedBy(q, -1, down(2)), "true 1 3,true 2 3,false 3 3,true 1 2,true 2 2,false 3 2,true 1 1,true 2 1,false 3 1||0")
	// As many rows as there can be, all alike but for the last Out.
	x := numbers("a", 100, 0, 1, 2, 3, 4, 5, 6, 7, 8, 9)
	q = ask(from("a", "a1", "a2", "a3"), "", "1", "(+ a3.k (* 10 (+ a2.k (* 10 (+ a1.k (* 10 a.k))))))")
	for _, key := range []api.Key{up(0), down(0)} {
		a, e := Run(withTables(x), "me", sortedBy(q, -1, key))
		if len(a.Rows) != 10000 || e != api.OK {
			t.Fatalf("%d rows, %d", len(a.Rows), e)
		}
		for i, row := range a.Rows {
			if !slices.Equal(row, in(num(1), num(i))) {
				t.Fatalf("row %d is %+v", i, row)
			}
		}
	}
}

func TestLimits(t *testing.T) {
	b := saidBase(numbers("a", 100, 5, 3, 4))
	q := ask(from("a"), "", "(note a.k)")
	for limit, want := range map[int]string{-1: "3,4,5", 0: "", 1: "3", 2: "3,4", 3: "3,4,5", 4: "3,4,5", 10000: "3,4,5", math.MaxInt: "3,4,5"} {
		wantRun(t, b, sortedBy(q, limit, up(0)), want+"|5 3 4|0")
	}
	for limit, want := range map[int]string{-1: "5,4,3", 0: "", 1: "5", 2: "5,4", 3: "5,4,3", 4: "5,4,3"} {
		wantRun(t, b, sortedBy(q, limit, down(0)), want+"|5 3 4|0")
	}
	q.Where = "(< 3 a.k)"
	for limit, want := range map[int]string{-1: "4,5", 0: "", 1: "4", 2: "4,5", 3: "4,5"} {
		wantRun(t, b, sortedBy(q, limit, up(0)), want+"|5 4|0")
	}
	q.Where = "false"
	for limit := -1; limit < 3; limit++ {
		wantRun(t, b, sortedBy(q, limit, up(0)), "||0")
	}
}

func TestWhatIsSaidOfSizesHidesNoRows(t *testing.T) {
	b := saidBase(numbers("a", 0, 1, 2), numbers("b", 0, 3))
	wantRun(t, b, ask(from("a", "b"), "(< a.k b.k)", "a.k"), "1,2||0")
}

// TestGoroutinesEnd: in a bubble, a goroutine that does not end is a failure.
func TestGoroutinesEnd(t *testing.T) {
	synctest.Test(t, func(t *testing.T) {
		b := saidBase(numbers("a", 100, 5, 3, 4, 0))
		wantRun(t, b, ask(from("a"), "", "a.k"), "5,3,4,0||0")
		wantRun(t, b, sortedBy(ask(from("a"), "", "a.k"), 0, up(0)), "||0")
		wantRun(t, b, ask(from("a"), "", "(/ 1 a.k)"), "||10")
		wantRun(t, b, ask(from("a"), "(= 1 (/ 0 0))", "a.k"), "||10")
		wantRun(t, b, ask(from("a"), "false", "a.k"), "||0")
		if _, e := Run(b, "me", ask(from("a"), "", "b.k")); e != api.ErrName {
			t.Errorf("Run of no column: %d", e)
		}
	})
}

// TestRunOfManyNotes: P1 where there are as many rows as there can be, and notes of each.
func TestRunOfManyNotes(t *testing.T) {
	b := saidBase(numbers("a", 100, 0, 1, 2, 3, 4, 5, 6, 7, 8, 9))
	b.Funcs = append(b.Funcs, fn("often", "n", strings.Repeat("(note ", 19)+"$1"+strings.Repeat(")", 19)))
	out := strings.Repeat("(often ", 5) + "a.k" + strings.Repeat(")", 5)
	a, e := Run(b, "me", ask(from("a", "a1", "a2", "a3"), "", out, out, out, out))
	if len(a.Rows) != 10000 || len(a.Notes) != 10000*4*5*19 || a.Fault != api.OK || e != api.OK {
		t.Errorf("%d rows, %d notes, %d, %d", len(a.Rows), len(a.Notes), a.Fault, e)
	}
}

func TestRunOfReadme(t *testing.T) {
	x := stock("large", 100, in(num(1), txt(""), yes()), in(num(2), txt(""), no()), in(nothing, txt(""), yes()))
	x.Policy = "row.h"
	b := withTables(x)
	q := ask([]api.Item{{Table: "large", As: "a"}, {Table: "large", As: "b"}}, "(isnull (note b.k))", "a.k", "(isnull b.k)")
	wantRun(t, b, sortedBy(q, -1, down(0)), "1 true,- true|1 -|0")
	wantRun(t, b, ask([]api.Item{{Table: "large", As: "a"}}, "", "(/ 6 (- (note a.k) 1))"), "|1|10")
}
