package curtain

import (
	"fmt"
	"math/rand"
	"slices"
	"strings"
	"testing"

	"curtain/api"
)

func wantSee(t *testing.T, what string, b api.Base, user, table string, want []int, wantErr api.Errno) {
	t.Helper()
	got, e := See(b, user, table)
	if !slices.Equal(got, want) || e != wantErr {
		t.Errorf("See with %s: %v, %d, want %v, %d", what, got, e, want, wantErr)
	}
}

func wantSeen(t *testing.T, policy, user string, rows [][]api.Cell, want ...int) {
	t.Helper()
	x := people()
	x.Policy, x.Rows, x.Users = policy, rows, []string{"you", user}
	wantSee(t, "the policy "+policy, api.Base{Funcs: helpers(), Tables: []api.Table{x}}, user, "people", want, api.OK)
}

func TestSeeOfDocument(t *testing.T) {
	x := api.Table{
		Name:   "a",
		Cols:   []api.Column{col("k", "n"), col("h", "b")},
		Rows:   [][]api.Cell{{num(1), yes()}, {num(2), no()}, {num(3), nothing}, {num(0), yes()}},
		Policy: "row.h",
		Users:  []string{"me"},
	}
	wantSee(t, "the document's table", withTables(x), "me", "a", []int{0, 3}, api.OK)
}

func TestSeeOfPolicies(t *testing.T) {
	rows := [][]api.Cell{
		{num(1), txt("me"), yes()},
		{num(7), txt("you"), no()},
		{nothing, nothing, nothing},
		{num(-5), txt(""), nothing},
		{nothing, txt("me"), no()},
	}
	wantSeen(t, "true", "me", rows, 0, 1, 2, 3, 4)
	wantSeen(t, "false", "me", rows)
	wantSeen(t, "row.h", "me", rows, 0)
	wantSeen(t, "(not row.h)", "me", rows, 1, 4)
	wantSeen(t, "(isnull row.h)", "me", rows, 2, 3)
	wantSeen(t, "(not (isnull row.h))", "me", rows, 0, 1, 4)
	wantSeen(t, "(= row.s user)", "me", rows, 0, 4)
	wantSeen(t, "(= row.s user)", "you", rows, 1)
	wantSeen(t, "(= row.s user)", "", rows, 3)
	wantSeen(t, "(= row.s user)", "we", rows)
	wantSeen(t, "(< row.k 5)", "me", rows, 0, 3)
	wantSeen(t, "(small row.k)", "me", rows, 0, 3)
	wantSeen(t, "(even row.k row.h)", "me", rows, 0, 3)
	wantSeen(t, "(or row.h (isnull row.k))", "me", rows, 0, 2, 4)
	wantSeen(t, "(and row.h (isnull row.k))", "me", rows)
	wantSeen(t, "(if row.h false true)", "me", rows, 1, 2, 3, 4)
	wantSeen(t, "(<= (len row.s) row.k)", "me", rows, 1)
	wantSeen(t, "(= row.k row.k)", "me", rows, 0, 1, 3)
}

func TestSeeOfRows(t *testing.T) {
	wantSeen(t, "true", "me", nil)
	wantSeen(t, "row.h", "me", slices.Repeat([][]api.Cell{{nothing, nothing, yes()}}, api.MaxRows), 0, 1, 2, 3, 4, 5, 6, 7, 8, 9)
	// What is said of sizes is not asked.
	x := people()
	x.Count = 0
	wantSee(t, "a Count of 0", withTables(x), "me", "people", []int{0}, api.OK)
}

func TestSeeAsksItsTableAlone(t *testing.T) {
	b := rightBase()
	b.Tables[1].Users = []string{"you"}
	b.Tables[1].Rows = b.Tables[1].Rows[1:]
	wantSee(t, "one table", b, "me", "people", []int{0}, api.OK)
	wantSee(t, "another one", b, "you", "places", []int{1}, api.OK)
}

func TestSeeOfGrants(t *testing.T) {
	long := strings.Repeat("u", api.MaxLong)
	x := people()
	for _, c := range []struct {
		users []string
		user  string
		err   api.Errno
	}{
		{[]string{"me"}, "me", api.OK}, {[]string{"you", "me", "me"}, "me", api.OK}, {[]string{""}, "", api.OK}, {[]string{long}, long, api.OK}, {[]string{"\xff"}, "\xff", api.OK},
		{nil, "me", api.ErrGrant}, {nil, "", api.ErrGrant}, {[]string{"me"}, "", api.ErrGrant}, {[]string{"me"}, "Me", api.ErrGrant}, {[]string{"me"}, "me ", api.ErrGrant}, {[]string{"me"}, "m", api.ErrGrant}, {[]string{""}, "me", api.ErrGrant},
		{[]string{long + "u"}, long, api.ErrGrant}, {[]string{long + "u"}, long + "u", api.ErrArg}, {make([]string, 100000), "me", api.ErrGrant},
	} {
		x.Users = c.users
		var want []int
		if c.err == api.OK {
			want = []int{0}
		}
		wantSee(t, "the user "+c.user, withTables(x), c.user, "people", want, c.err)
	}
}

func TestTheFirstErrorOfSeeCounts(t *testing.T) {
	long := strings.Repeat("u", api.MaxLong+1)
	right := rightBase()
	right.Tables[0].Users = []string{"you", long}
	wantSee(t, "no grant", right, "me", "people", nil, api.ErrGrant)
	wantSee(t, "a longer user", right, long, "people", nil, api.ErrArg)
	wantSee(t, "a far longer user", right, strings.Repeat("u", 1000000), "people", nil, api.ErrArg)
	for _, name := range []string{"", "People", "people ", "first", "row", "k", "true", strings.Repeat("p", 100000)} {
		wantSee(t, "no such table", right, "me", name, nil, api.ErrName)
		wantSee(t, "no such table and a longer user", right, long, name, nil, api.ErrArg)
		wantSee(t, "a base of nothing", api.Base{}, "me", name, nil, api.ErrName)
	}
	for _, x := range inOrder() {
		b := rightBase()
		x.apply(&b)
		for _, table := range []string{"people", "places", "nosuch", ""} {
			wantSee(t, "wrong "+x.field, b, "me", table, nil, x.err)
			wantSee(t, "wrong "+x.field+" and no grant", b, "we", table, nil, x.err)
			wantSee(t, "a longer user and wrong "+x.field, b, long, table, nil, api.ErrArg)
		}
	}
}

// grownTable has a grown policy, and a column for each of its parameters.
func (g *sampler) grownTable() (api.Table, sampleFunc) {
	g.funcs = nil
	f := g.function()
	for f.letter != "b" || f.args == "" || !f.body.quiet || !strings.Contains(f.body.text, "$") {
		f = g.function()
	}
	x := api.Table{Name: "a", Policy: strings.ReplaceAll(f.body.text, "$", "row.c"), Users: []string{"me"}}
	for i, letter := range strings.Split(f.args, "") {
		x.Cols = append(x.Cols, col(fmt.Sprintf("c%d", i+1), letter))
	}
	for range g.random.Intn(api.MaxRows + 1) {
		x.Rows = append(x.Rows, g.arguments(f.args))
	}
	return x, f
}

func TestSeeOfGrownPolicies(t *testing.T) {
	g := &sampler{random: rand.New(rand.NewSource(6))}
	told := map[api.Cell]int{}
	for range 2000 {
		x, f := g.grownTable()
		if len(x.Policy) > api.MaxText || f.body.size > api.MaxSize {
			continue
		}
		var want []int
		for i, row := range x.Rows {
			value, _, _ := f.try(row)
			told[value]++
			if value == yes() {
				want = append(want, i)
			}
		}
		wantSee(t, "the policy "+x.Policy, withTables(x), "me", "a", want, api.OK)
	}
	for _, c := range in(yes(), no(), nothing) {
		if told[c] < 500 {
			t.Errorf("only %d rows have the policy %+v", told[c], c)
		}
	}
}
