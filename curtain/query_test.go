package curtain

import (
	"math"
	"math/rand"
	"slices"
	"strings"
	"testing"

	"curtain/api"
)

// asked is a base, a user and a query, which a test may break.
type asked struct {
	base  api.Base
	user  string
	query api.Query
}

// rightQuery asks for two tables of rightBase; a third one is not the user's.
func rightQuery() asked {
	b := rightBase()
	secret := people()
	secret.Name, secret.Users = "secret", []string{"you"}
	b.Tables = append(b.Tables, secret)
	return asked{b, "me", api.Query{
		From:  []api.Item{{Table: "people", As: "a"}, {Table: "places", As: "b"}},
		Where: "(and (= a.k b.k) (small a.k))",
		Outs:  []string{"a.k", "(first b.k)"},
		Order: []api.Key{{Out: 1}},
		Limit: 3,
	}}
}

// wantQuery asks all calls that take a query what is wrong with it.
func wantQuery(t *testing.T, what string, x asked, want api.Errno) {
	t.Helper()
	var order []int
	for i := range min(len(x.query.From), 10) {
		order = append(order, i)
	}
	if cost, e := Cost(x.base, x.user, x.query, order); e != want || e != api.OK && cost != 0 {
		t.Errorf("Cost of a query with %s: %d, %d, want %d", what, cost, e, want)
	}
	if steps, e := Plan(x.base, x.user, x.query); e != want || (e == api.OK) != (len(steps) > 0) {
		t.Errorf("Plan of a query with %s: %+v, %d, want %d", what, steps, e, want)
	}
	if a, e := Run(x.base, x.user, x.query); e != want || e != api.OK && (len(a.Rows) > 0 || len(a.Notes) > 0 || a.Fault != api.OK) {
		t.Errorf("Run of a query with %s: %+v, %d, want %d", what, a, e, want)
	}
	// That the order is none counts behind all else.
	if want == api.OK {
		want = api.ErrArg
	}
	if cost, e := Cost(x.base, x.user, x.query, []int{0, 0}); cost != 0 || e != want {
		t.Errorf("Cost of no order of a query with %s: %d, %d, want %d", what, cost, e, want)
	}
}

func wantChanged(t *testing.T, what string, change func(q *api.Query), want api.Errno) {
	t.Helper()
	x := rightQuery()
	change(&x.query)
	wantQuery(t, what, x, want)
}

// brokenQuery breaks one field of what is asked.
type brokenQuery struct {
	field string
	err   api.Errno
	apply func(x *asked)
}

// brokenAhead are ways to break what counts ahead of the query's own texts, in the order in which they count.
func brokenAhead() []brokenQuery {
	list := []brokenQuery{{"user", api.ErrArg, func(x *asked) { x.user = strings.Repeat("u", api.MaxLong+1) }}}
	for _, b := range inOrder() {
		list = append(list, brokenQuery{"base", b.err, func(x *asked) { b.apply(&x.base) }})
	}
	put := func(field string, change func(q *api.Query)) {
		list = append(list, brokenQuery{field, api.ErrQuery, func(x *asked) { change(&x.query) }})
	}
	put("from", func(q *api.Query) { q.From = nil })
	put("from", func(q *api.Query) { q.From = append(q.From, make([]api.Item, 3)...) })
	put("outs", func(q *api.Query) { q.Outs, q.Order, q.Limit = nil, nil, -1 })
	put("outs", func(q *api.Query) { q.Outs = append(q.Outs, make([]string, 3)...) })
	put("limit", func(q *api.Query) { q.Limit = -2 })
	put("limit", func(q *api.Query) { q.Limit, q.Order = 0, nil })
	put("order", func(q *api.Query) { q.Order = make([]api.Key, 5) })
	put("order", func(q *api.Query) { q.Order = []api.Key{{Out: 0}, {Out: 2}} })
	put("order", func(q *api.Query) { q.Order = []api.Key{{Out: 0}, {Out: -1}} })
	return list
}

// brokenTexts are ways to break a query's items and texts, in the order in which they count.
func brokenTexts() []brokenQuery {
	var list []brokenQuery
	put := func(field string, err api.Errno, change func(q *api.Query)) {
		list = append(list, brokenQuery{field, err, func(x *asked) { change(&x.query) }})
	}
	put("first table", api.ErrName, func(q *api.Query) { q.From[0].Table = "nosuch" })
	put("first as", api.ErrName, func(q *api.Query) { q.From[0].As = "A" })
	put("first table", api.ErrGrant, func(q *api.Query) { q.From[0].Table = "secret" })
	put("second table", api.ErrName, func(q *api.Query) { q.From[1].Table = "a" })
	put("second as", api.ErrName, func(q *api.Query) { q.From[1].As = "" })
	put("second as", api.ErrName, func(q *api.Query) { q.From[1].As = q.From[0].As })
	put("second table", api.ErrGrant, func(q *api.Query) { q.From[1].Table = "secret" })
	large := "(or" + times(6, "(fifty)") + ")"
	put("where", api.ErrText, func(q *api.Query) { q.Where = "(" })
	put("where", api.ErrName, func(q *api.Query) { q.Where = "people.h" })
	put("where", api.ErrType, func(q *api.Query) { q.Where = "(and)" })
	put("where", api.ErrSize, func(q *api.Query) { q.Where = large })
	put("where", api.ErrType, func(q *api.Query) { q.Where = "a.k" })
	for i, field := range []string{"first out", "second out"} {
		for _, c := range []struct {
			text string
			err  api.Errno
		}{{"", api.ErrText}, {"$1", api.ErrName}, {"(+ a.k a.s)", api.ErrType}, {large, api.ErrSize}} {
			put(field, c.err, func(q *api.Query) { q.Outs[i] = c.text })
		}
	}
	return list
}

func TestTheFirstErrorOfAQueryCounts(t *testing.T) {
	wantQuery(t, "nothing wrong", rightQuery(), api.OK)
	list := append(brokenAhead(), brokenTexts()...)
	for i, x := range list {
		one := rightQuery()
		x.apply(&one)
		wantQuery(t, "wrong "+x.field, one, x.err)
		for _, y := range list[i+1:] {
			// Of one field only one thing can be wrong at a time.
			if x.field == y.field {
				continue
			}
			both := rightQuery()
			y.apply(&both)
			x.apply(&both)
			wantQuery(t, "wrong "+x.field+" and "+y.field, both, x.err)
		}
	}
}

func items(n int) []api.Item {
	var list []api.Item
	for _, as := range strings.Split("abcdefgh", "")[:n] {
		list = append(list, api.Item{Table: "people", As: as})
	}
	return list
}

func TestBoundsOfAQuery(t *testing.T) {
	plain := api.Query{Outs: []string{"1"}, Limit: -1}
	for n, want := range []api.Errno{api.ErrQuery, api.OK, api.OK, api.OK, api.OK, api.ErrQuery, api.ErrQuery} {
		wantChanged(t, "some items", func(q *api.Query) { *q = plain; q.From = items(n) }, want)
		wantChanged(t, "some Outs", func(q *api.Query) { q.Order, q.Limit, q.Outs = nil, -1, slices.Repeat([]string{"a.k"}, n) }, want)
	}
	for n, want := range []api.Errno{api.OK, api.OK, api.OK, api.OK, api.OK, api.ErrQuery, api.ErrQuery} {
		wantChanged(t, "some keys", func(q *api.Query) { q.Limit, q.Order = -1, make([]api.Key, n) }, want)
		wantChanged(t, "some keys that are Down", func(q *api.Query) { q.Limit, q.Order = -1, slices.Repeat([]api.Key{{Out: 1, Down: true}}, n) }, want)
	}
	for limit, want := range map[int]api.Errno{-1: api.OK, 0: api.OK, 1: api.OK, math.MaxInt: api.OK, -2: api.ErrQuery, math.MinInt: api.ErrQuery} {
		wantChanged(t, "a Limit", func(q *api.Query) { q.Limit = limit }, want)
		if limit != -1 {
			want = api.ErrQuery
		}
		wantChanged(t, "a Limit and no keys", func(q *api.Query) { q.Limit, q.Order = limit, nil }, want)
	}
	for out, want := range map[int]api.Errno{0: api.OK, 1: api.OK, 2: api.ErrQuery, -1: api.ErrQuery, math.MaxInt: api.ErrQuery, math.MinInt: api.ErrQuery} {
		for place := range 4 {
			wantChanged(t, "a key", func(q *api.Query) { q.Order = make([]api.Key, 4); q.Order[place].Out = out }, want)
		}
	}
	wantChanged(t, "the last of four Outs as key", func(q *api.Query) { q.Outs, q.Order = slices.Repeat([]string{"1"}, 4), []api.Key{{Out: 3}} }, api.OK)
	wantChanged(t, "a fifth of four Outs as key", func(q *api.Query) { q.Outs, q.Order = slices.Repeat([]string{"1"}, 4), []api.Key{{Out: 4}} }, api.ErrQuery)
	wantChanged(t, "many items", func(q *api.Query) { q.From = make([]api.Item, 1000000) }, api.ErrQuery)
	wantChanged(t, "many Outs", func(q *api.Query) { q.Outs = make([]string, 1000000) }, api.ErrQuery)
	wantChanged(t, "many keys", func(q *api.Query) { q.Order = make([]api.Key, 1000000) }, api.ErrQuery)
	wantQuery(t, "nothing at all", asked{}, api.ErrQuery)
}

func TestNamesOfItems(t *testing.T) {
	for _, as := range []string{"c", "z9", "twelvebytes1", "people", "row", "true", "user", "and", "note", "small"} {
		wantChanged(t, "the item "+as, func(q *api.Query) { q.From[0].As = as; q.Where = "(= b.k " + as + ".k)"; q.Outs[0] = as + ".h" }, api.OK)
		wantChanged(t, "the item "+as+", named otherwise", func(q *api.Query) { q.From[0].As = as }, api.ErrName)
	}
	for _, as := range []string{"", " ", "A", "1", "a b", " a", "a.b", "$1", "'a'", "+", "é", "a\x00", "thirteenbytes", strings.Repeat("a", 100000), "b"} {
		wantChanged(t, "the item "+as, func(q *api.Query) { q.From[0].As = as; q.Where = ""; q.Outs = []string{"1", "1"} }, api.ErrName)
	}
	for _, table := range []string{"", "People", "people ", "a", "row", "first", strings.Repeat("p", 100000)} {
		wantChanged(t, "the table "+table, func(q *api.Query) { q.From[1].Table = table }, api.ErrName)
	}
	wantChanged(t, "one table twice", func(q *api.Query) { q.From[1].Table = "people" }, api.OK)
	wantChanged(t, "a name twice, the first of a table that is not the user's", func(q *api.Query) {
		q.From = []api.Item{{Table: "secret", As: "a"}, {Table: "secret", As: "a"}}
	}, api.ErrGrant)
	wantChanged(t, "a name again, far behind", func(q *api.Query) { q.From = items(4); q.From[3].As = "a" }, api.ErrName)
}

func TestGrantsOfItems(t *testing.T) {
	for user, want := range map[string]api.Errno{"me": api.OK, "you": api.ErrGrant, "": api.ErrGrant, "Me": api.ErrGrant} {
		x := rightQuery()
		x.user = user
		wantQuery(t, "the user "+user, x, want)
	}
	x := rightQuery()
	x.base.Tables[1].Users = nil
	wantQuery(t, "an item that is nobody's", x, api.ErrGrant)
	x.query.From, x.query.Where, x.query.Outs = x.query.From[:1], "", []string{"1", "1"}
	wantQuery(t, "a table beside it that is nobody's", x, api.OK)
	x = rightQuery()
	x.user = strings.Repeat("u", api.MaxLong)
	for i := range x.base.Tables {
		x.base.Tables[i].Users = []string{"me", x.user}
	}
	wantQuery(t, "the longest user", x, api.OK)
}

// wantTexts asks for a text as the condition, and as an Out.
func wantTexts(t *testing.T, text string, where, out api.Errno) {
	t.Helper()
	wantChanged(t, "where "+text, func(q *api.Query) { q.Where = text }, where)
	wantChanged(t, "the first out "+text, func(q *api.Query) { q.Outs[0] = text }, out)
	wantChanged(t, "the second out "+text, func(q *api.Query) { q.Outs[1] = text }, out)
}

func TestTextsOfAQuery(t *testing.T) {
	for _, text := range []string{"true", "a.h", "b.h", "(= a.k b.k)", "(= user a.s)", "(and (and a.h b.h) (small (first 1)))", "(note b.h)", "(second a.s (isnull b.k))", "(= 1 (/ 1 0))"} {
		wantTexts(t, text, api.OK, api.OK)
	}
	for _, text := range []string{"1", "a.k", "b.s", "user", "(first b.k)", "(note a.s)", "(if a.h 1 2)"} {
		wantTexts(t, text, api.ErrType, api.OK)
	}
	for _, text := range []string{"$1", "(isnull $1)", "row.h", "people.h", "c.h", "a.x", "h.a", "a.a", "(nosuch)", "(nosuch a.k)", "(and a.k c.h)"} {
		wantTexts(t, text, api.ErrName, api.ErrName)
	}
	for _, text := range []string{"(= a.k a.h)", "(and)", "(first a.s)", "(small)", "(and a.h a.k)", "(nosuch (and))"} {
		wantTexts(t, text, api.ErrType, api.ErrType)
	}
	for _, text := range []string{" ", "\t\n", "(", "a", "a.h b.h", "(a.h)", "A.h", "a.h.k", "x", strings.Repeat("(", 1000000)} {
		wantTexts(t, text, api.ErrText, api.ErrText)
	}
	wantTexts(t, "", api.OK, api.ErrText)
	wantTexts(t, "a.h"+strings.Repeat(" ", 397), api.OK, api.OK)
	wantTexts(t, "a.h"+strings.Repeat(" ", 398), api.ErrText, api.ErrText)
	deep := func(n int) string { return strings.Repeat("(not ", n) + "b.h" + strings.Repeat(")", n) }
	wantTexts(t, deep(20), api.OK, api.OK)
	wantTexts(t, deep(21), api.ErrText, api.ErrText)
	wantTexts(t, "(or"+times(5, "(fifty)")+times(49, "a.h")+")", api.OK, api.OK)
	wantTexts(t, "(or"+times(5, "(fifty)")+times(50, "a.h")+")", api.ErrSize, api.ErrSize)
	wantTexts(t, "(len (if true 'a' (if"+times(6, "(fifty)")+" 'b')))", api.ErrType, api.ErrType)
	// The size is of each text alone.
	large := "(or" + times(5, "(fifty)") + times(49, "a.h") + ")"
	wantChanged(t, "texts of the greatest size", func(q *api.Query) { q.Where, q.Outs[0], q.Outs[1] = large, large, large }, api.OK)
}

func TestColumnsOfAQueryAreOfTheirTables(t *testing.T) {
	x := rightQuery()
	x.base.Tables[1].Cols = []api.Column{col("k", "t"), col("z", "b")}
	x.base.Tables[1].Rows, x.base.Tables[1].Policy = nil, "row.z"
	for text, want := range map[string]api.Errno{
		"(= a.k 1)": api.OK, "(= b.k 1)": api.ErrType, "(= b.k 'x')": api.OK, "(= a.k b.k)": api.ErrType, "b.z": api.OK, "a.z": api.ErrName, "b.h": api.ErrName, "(= a.s b.k)": api.OK,
	} {
		x.query.Where, x.query.Outs[1] = text, text
		wantQuery(t, text, x, want)
	}
}

// junk puts what may be anything into some fields of what is asked.
func junk(random *rand.Rand, x *asked) {
	text := func() string {
		return []string{"", "a", "b", "people", "places", "secret", "row.h", "a.h", "(and a.h b.h)", "(= a.k b.k)", "(and", "\xff\x00", "$1", "(first a.k)", "true", "'", "-", "user", "(note true)", strings.Repeat("(", 500), strings.Repeat("x", 5000)}[random.Intn(21)]
	}
	number := func() int {
		return []int{0, 1, -1, 2, 3, 4, 5, -2, api.MaxCount, api.MaxCount + 1, math.MaxInt, math.MinInt}[random.Intn(12)]
	}
	place := func(n int) int { return random.Intn(n) }
	for range 1 + random.Intn(3) {
		switch random.Intn(12) {
		case 0:
			x.user = text()
		case 1:
			x.base.Funcs[place(4)] = fn(text(), text(), text())
		case 2:
			x.base.Tables[place(3)].Policy = text()
		case 3:
			x.base.Tables[place(3)].Count = number()
		case 4:
			x.base.Tables[place(3)].Cols[place(3)] = api.Column{Name: text(), Type: text(), Distinct: number()}
		case 5:
			x.base.Tables[place(3)].Rows[place(3)] = []api.Cell{{Kind: number(), N: number(), S: text()}}
		case 6:
			x.query.From[place(2)] = api.Item{Table: text(), As: text()}
		case 7:
			x.query.Where = text()
		case 8:
			x.query.Outs[place(2)] = text()
		case 9:
			x.query.Order = append(x.query.Order, api.Key{Out: number()})
		case 10:
			x.query.Limit = number()
		case 11:
			x.base.Tables[place(3)].Users = []string{text(), text()}
		}
	}
}

func TestJunkQueries(t *testing.T) {
	random := rand.New(rand.NewSource(9))
	seen := map[api.Errno]int{}
	for range 5000 {
		x := rightQuery()
		junk(random, &x)
		_, e := Plan(x.base, x.user, x.query)
		seen[e]++
		wantQuery(t, "junk", x, e)
		if rows, e := See(x.base, x.user, "people"); e != api.OK && len(rows) > 0 {
			t.Errorf("See of junk: %v, %d", rows, e)
		}
	}
	for e := api.OK; e <= api.ErrArg; e++ {
		if e != api.ErrSize && seen[e] < 20 {
			t.Errorf("only %d queries have the error %d", seen[e], e)
		}
	}
}
