package curtain

import (
	"reflect"
	"slices"
	"sync"
	"testing"
	"unsafe"

	"curtain/api"
)

// roomy puts a list ahead of spare room in which something stands.
func roomy[T any](list []T, spare T) []T {
	full := append(slices.Clone(list), spare, spare)
	return full[:len(list)]
}

// roomyBase is a right base of which each list has spare room.
func roomyBase() api.Base {
	x := people()
	for i := range x.Rows {
		x.Rows[i] = roomy(x.Rows[i], num(99))
	}
	x.Cols = roomy(x.Cols, col("spare", "n"))
	x.Rows = roomy(x.Rows, in(num(98)))
	x.Users = roomy(x.Users, "spare")
	funcs := append(helpers(), fn("f", "nt", "(if (isnull (note $1)) (note $2) $2)"))
	return api.Base{Funcs: roomy(funcs, fn("spare", "", "1")), Tables: roomy([]api.Table{x}, people())}
}

// whole is a base with its lists up to the end of their spare room.
func whole(b api.Base) api.Base {
	b.Funcs = b.Funcs[:cap(b.Funcs)]
	b.Tables = slices.Clone(b.Tables[:cap(b.Tables)])
	for i := range b.Tables {
		x := &b.Tables[i]
		x.Cols = x.Cols[:cap(x.Cols)]
		x.Users = x.Users[:cap(x.Users)]
		x.Rows = slices.Clone(x.Rows[:cap(x.Rows)])
		for j := range x.Rows {
			x.Rows[j] = x.Rows[j][:cap(x.Rows[j])]
		}
	}
	return b
}

// roomyQuery is a right query of roomyBase, of which each list has spare room.
func roomyQuery() api.Query {
	return api.Query{
		From:  roomy([]api.Item{{Table: "people", As: "a"}, {Table: "people", As: "b"}, {Table: "people", As: "c"}}, api.Item{Table: "people", As: "spare"}),
		Where: "(and (loud a.h) (= a.k b.k) (loud b.h) a.h (note true) (= 1 c.k) (loud (= a.k c.k)))",
		Outs:  roomy([]string{"a.k", "b.s"}, "spare"),
		Order: roomy([]api.Key{{Out: 1}}, api.Key{Out: 1, Down: true}),
		Limit: 2,
	}
}

// roomySteps is the plan of roomyQuery.
func roomySteps() []api.Step { return steps(step(0, 3, 0, 4), step(1, 1, 2), step(2, 5, 6)) }

func wholeQuery(q api.Query) api.Query {
	q.From, q.Outs, q.Order = q.From[:cap(q.From)], q.Outs[:cap(q.Outs)], q.Order[:cap(q.Order)]
	return q
}

func TestCallsDoNotWriteIntoTheirArguments(t *testing.T) {
	b := roomyBase()
	args := roomy(in(nothing, txt("abc")), num(97))
	Check(b)
	Quiet(b, "f")
	Call(b, "me", "f", args)
	q, order := roomyQuery(), roomy([]int{2, 0, 1}, 96)
	_, seeing := See(b, "me", "people")
	_, costing := Cost(b, "me", q, order)
	_, planning := Plan(b, "me", q)
	_, running := Run(b, "me", q)
	if seeing != api.OK || costing != api.OK || planning != api.OK || running != api.OK {
		t.Errorf("the calls tell %d, %d, %d, %d", seeing, costing, planning, running)
	}
	if !reflect.DeepEqual(wholeQuery(q), wholeQuery(roomyQuery())) {
		t.Errorf("the query is now %+v", wholeQuery(q))
	}
	if got := order[:cap(order)]; !slices.Equal(got[:5], []int{2, 0, 1, 96, 96}) {
		t.Errorf("the order is now %v", got)
	}
	if !reflect.DeepEqual(whole(b), whole(roomyBase())) {
		t.Errorf("the base is now %+v", whole(b))
	}
	if got := args[:cap(args)]; !slices.Equal(got[:4], in(nothing, txt("abc"), num(97), num(97))) {
		t.Errorf("the arguments are now %+v", got)
	}
}

func sharesMemory(a, b string) bool {
	from, to := uintptr(unsafe.Pointer(unsafe.StringData(a))), uintptr(unsafe.Pointer(unsafe.StringData(b)))
	return len(a) > 0 && len(b) > 0 && from < to+uintptr(len(b)) && to < from+uintptr(len(a))
}

func TestCallAnswersNewMemory(t *testing.T) {
	user, arg, body := string([]byte("me")), string([]byte("abc")), string([]byte("'quoted'"))
	b := withFuncs(fn("who", "", "(note user)"), fn("same", "t", "(note $1)"), fn("const", "", body), fn("catone", "t", "(cat $1)"))
	for name, args := range map[string][]api.Cell{"who": nil, "same": {txt(arg)}, "const": nil, "catone": {txt(arg)}} {
		value, notes, e := Call(b, user, name, args)
		if e != api.OK {
			t.Errorf("Call of %s: %d", name, e)
		}
		for _, told := range append(notes, value.S) {
			if sharesMemory(told, user) || sharesMemory(told, arg) || sharesMemory(told, body) {
				t.Errorf("Call of %s answers a piece of an argument", name)
			}
		}
	}
	_, first, _ := Call(b, user, "who", nil)
	_, second, _ := Call(b, user, "who", nil)
	first[0] = "changed"
	_ = append(first, "more")
	if second[0] != "'me'" {
		t.Error("two answers share notes")
	}
}

// fill writes into all of a list, spare room too.
func fill(list []int, n int) {
	for i := range list[:cap(list)] {
		list[:cap(list)][i] = n
	}
}

func TestSeeAnswersNewMemory(t *testing.T) {
	b := roomyBase()
	first, _ := See(b, "me", "people")
	second, _ := See(b, "me", "people")
	fill(first, 77)
	if !slices.Equal(second, []int{0}) {
		t.Errorf("two answers share rows: %v", second)
	}
	wantSee(t, "a base of which rows were told", b, "me", "people", []int{0}, api.OK)
}

func TestPlanAnswersNewMemory(t *testing.T) {
	b, q := roomyBase(), roomyQuery()
	want := roomySteps()
	wantPlan(t, b, q, want)
	for i := range want {
		// What is written into one list is not to be seen in another one, nor in another answer.
		first, _ := Plan(b, "me", q)
		second, _ := Plan(b, "me", q)
		fill(first[i].Parts, 77)
		for j, s := range first {
			if j != i && !slices.Equal(s.Parts, want[j].Parts) {
				t.Errorf("the parts %d and %d share memory: %+v", i, j, first)
			}
		}
		for j := range first[:cap(first)] {
			first[:cap(first)][j] = step(99, 99)
		}
		if !reflect.DeepEqual(told(second), want) {
			t.Errorf("two answers share memory: %+v", second)
		}
	}
	wantPlan(t, b, q, want)
}

// ran is a base and a query of which the answer has some rows, texts and notes, but fewer rows than there are.
func ran() (api.Base, api.Query) {
	b := roomyBase()
	b.Tables[0].Rows = roomy([][]api.Cell{roomy(in(num(3), txt("x"), yes()), num(95)), roomy(in(num(1), txt("y"), yes()), num(95)), roomy(in(num(2), txt("z"), yes()), num(95))}, in(num(94)))
	return b, api.Query{
		From:  roomy([]api.Item{{Table: "people", As: "a"}}, api.Item{Table: "people", As: "spare"}),
		Where: "(loud a.h)",
		Outs:  roomy([]string{"a.k", "a.s", "(note a.s)"}, "spare"),
		Order: roomy([]api.Key{{Out: 0}}, api.Key{Out: 1, Down: true}),
		Limit: 2,
	}
}

// ranShown is the answer to ran.
const ranShown = "1 'y' 'y',2 'z' 'z'|true 'x' true 'y' true 'z'|0"

// overwrite writes into all of a list, spare room too.
func overwrite[T any](list []T, x T) {
	list = list[:cap(list)]
	for i := range list {
		list[i] = x
	}
}

func TestRunDoesNotWriteIntoItsArguments(t *testing.T) {
	b, q := ran()
	wantRun(t, b, q, ranShown)
	q.Outs[0] = "(/ a.k (- a.k 2))"
	wantRun(t, b, q, "|true 'x' true 'y' true|10")
	q.Outs[0] = "a.k"
	wantB, wantQ := ran()
	if !reflect.DeepEqual(whole(b), whole(wantB)) {
		t.Errorf("the base is now %+v", whole(b))
	}
	if !reflect.DeepEqual(wholeQuery(q), wholeQuery(wantQ)) {
		t.Errorf("the query is now %+v", wholeQuery(q))
	}
}

func TestRunAnswersNewMemory(t *testing.T) {
	b, q := ran()
	for i := range 2 {
		first, _ := Run(b, "me", q)
		second, _ := Run(b, "me", q)
		// What is written into one row is not to be seen in another one.
		overwrite(first.Rows[i], txt("written"))
		if other := first.Rows[1-i]; slices.Contains(other[:cap(other)], txt("written")) {
			t.Errorf("the rows %d and %d share memory: %s", i, 1-i, shown(first))
		}
		overwrite(first.Rows, in(txt("written")))
		overwrite(first.Notes, "written")
		if shown(second) != ranShown {
			t.Errorf("two answers share memory: %s", shown(second))
		}
		wantRun(t, b, q, ranShown)
	}
	q.Outs[0] = "(/ a.k (- a.k 2))"
	first, _ := Run(b, "me", q)
	overwrite(first.Notes, "written")
	wantRun(t, b, q, "|true 'x' true 'y' true|10")
}

func TestRunAnswersNewTexts(t *testing.T) {
	user, text, out := string([]byte("me")), string([]byte("abc")), string([]byte("'quoted'"))
	x := stock("a", 1, in(num(1), txt(text), yes()))
	q := ask(from("a"), "", "(note user)", "(note a.s)", out, "(cat a.s)")
	a, e := Run(withTables(x), user, q)
	if shown(a) != "'me' 'abc' 'quoted' 'abc'|'me' 'abc'|0" || e != api.OK {
		t.Fatalf("Run of texts: %s, %d", shown(a), e)
	}
	texts := slices.Clone(a.Notes)
	for _, c := range a.Rows[0] {
		texts = append(texts, c.S)
	}
	for i, told := range texts {
		if sharesMemory(told, user) || sharesMemory(told, text) || sharesMemory(told, out) {
			t.Errorf("%q is a piece of an argument", told)
		}
		for _, other := range texts[:i] {
			if sharesMemory(told, other) {
				t.Errorf("%q and %q share memory", told, other)
			}
		}
	}
}

func TestCallsHangOnTheirArgumentsAlone(t *testing.T) {
	b, q := roomyBase(), roomyQuery()
	runB, runQ := ran()
	var joined sync.WaitGroup
	for i := range 8 {
		joined.Go(func() {
			for range 100 {
				wantCheck(t, "a shared base", b, api.OK)
				wantQuiet(t, b, "loud", false, api.OK)
				value, told, e := Call(b, "me", "f", in(num(i), txt("a")))
				if value != txt("a") || len(told) != 1 || e != api.OK {
					t.Errorf("Call beside others: %+v, %q, %d", value, told, e)
				}
				wantSee(t, "a shared base", b, "me", "people", []int{0}, api.OK)
				// Each 3 of a Distinct leaves 1 of 7, 49 or 343 rows, but for c alone.
				wantCost(t, b, q, []int{2, 0, 1}, 2+1+1, api.OK)
				wantPlan(t, b, q, roomySteps())
				wantRun(t, runB, runQ, ranShown)
			}
		})
	}
	joined.Wait()
}
