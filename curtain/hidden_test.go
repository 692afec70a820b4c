package curtain

import (
	"fmt"
	"math/rand"
	"reflect"
	"slices"
	"testing"

	"curtain/api"
)

// everything is all that Run, Plan and Cost tell of a query, as a text.
func everything(b api.Base, user string, q api.Query) string {
	a, e := Run(b, user, q)
	plan, e2 := Plan(b, user, q)
	text := fmt.Sprintln(shown(a), e, told(plan), e2)
	for _, order := range orders(nil, len(q.From)) {
		cost, e := Cost(b, user, q, order)
		text += fmt.Sprintln(cost, e)
	}
	return text
}

// onlySeen is a base without the rows that the user does not see.
func onlySeen(b api.Base, user string) api.Base {
	b.Tables = slices.Clone(b.Tables)
	for i := range b.Tables {
		x := &b.Tables[i]
		seen, _ := See(b, user, x.Name)
		var rows [][]api.Cell
		for _, number := range seen {
			rows = append(rows, x.Rows[number])
		}
		x.Rows = rows
	}
	return b
}

// withHidden puts rows that the user does not see among those of a base.
func withHidden(b api.Base, random *rand.Rand, hidden func(x api.Table) []api.Cell) api.Base {
	b.Tables = slices.Clone(b.Tables)
	for i := range b.Tables {
		x := &b.Tables[i]
		x.Rows = slices.Clone(x.Rows)
		for range random.Intn(api.MaxRows + 1 - len(x.Rows)) {
			if row := hidden(*x); row != nil {
				x.Rows = slices.Insert(x.Rows, random.Intn(len(x.Rows)+1), row)
			}
		}
	}
	return b
}

// hiddenRow grows a row that the user does not see; nil, if none comes up.
func (g *sampler) hiddenRow(x api.Table) []api.Cell {
	for range 10 {
		row := g.arguments(lettersOf(x))
		x.Rows = [][]api.Cell{row}
		if seen, _ := See(withTables(x), "me", x.Name); len(seen) == 0 {
			return row
		}
	}
	return nil
}

// TestNothingShowsThrough is P11, of answers with and without hidden rows.
func TestNothingShowsThrough(t *testing.T) {
	g := &sampler{random: rand.New(rand.NewSource(13))}
	withRows, withFaults, withNotes := 0, 0, 0
	for range 1000 {
		s, _ := g.someRun(t)
		clean := onlySeen(s.base, "me")
		want := everything(clean, "me", s.query)
		for _, b := range []api.Base{s.base, withHidden(clean, g.random, g.hiddenRow), withHidden(clean, g.random, g.hiddenRow)} {
			if got := everything(b, "me", s.query); got != want {
				t.Fatalf("%+v of %+v tells %s, without hidden rows %s", s.query, b, got, want)
			}
			if a, _ := Run(b, "me", s.query); !reflect.DeepEqual(b, clean) {
				withRows += min(len(a.Rows), 1)
				withFaults += min(int(a.Fault), 1)
				withNotes += min(len(a.Notes), 1)
			}
		}
	}
	if withRows < 300 || withFaults < 100 || withNotes < 300 {
		t.Errorf("only %d answers have rows, %d faults, %d notes, and hidden rows beside them", withRows, withFaults, withNotes)
	}
}

func TestHiddenRowsCannotFailOrNote(t *testing.T) {
	secret := in(num(0), txt("secret"), no())
	shownRows := [][]api.Cell{in(num(1), txt("x"), yes()), in(num(2), txt("y"), yes())}
	policies := []string{"row.h", "(= row.h true)", "(not (= row.k 0))", "(< 0 row.k)", "(not (= row.s 'secret'))", "(if (isnull row.k) false row.h)"}
	hidden := [][]api.Cell{secret, in(num(0), txt("secret"), nothing)}
	for _, policy := range policies {
		clean := stock("a", 5, shownRows...)
		clean.Policy = policy
		for _, where := range []string{"", "(< 0 (/ 6 a.k))", "(< 0 (note a.k))", "(and (loud (< a.k 2)) (< 0 (/ 1 a.k)))", "(= 1 (/ 1 0))"} {
			q := ask(from("a", "a1"), where, "(note a.s)", "(/ 6 a1.k)", "(note a1.s)")
			want := everything(saidBase(clean), "me", q)
			for _, row := range hidden {
				for place := range 3 {
					dirty := clean
					dirty.Rows = slices.Insert(slices.Clone(clean.Rows), place, row)
					if seen, _ := See(saidBase(dirty), "me", "a"); len(seen) != 2 {
						continue
					}
					if got := everything(saidBase(dirty), "me", q); got != want {
						t.Errorf("with the policy %s and %s: %s, without the hidden row %s", policy, where, got, want)
					}
				}
			}
		}
	}
}

func TestEachUserIsToldTheirOwn(t *testing.T) {
	x := stock("a", 5, in(num(1), txt("me"), no()), in(num(0), txt("you"), no()), in(num(3), txt("me"), no()), in(num(7), nothing, no()))
	x.Policy, x.Users = "(= row.s user)", []string{"me", "you", "we"}
	q := ask(from("a"), "", "(/ 6 (note a.k))")
	for user, want := range map[string]string{"me": "6,2|1 3|0", "you": "|0|10", "we": "||0"} {
		if a, e := Run(withTables(x), user, q); shown(a) != want || e != api.OK {
			t.Errorf("Run for %s: %s, %d, want %s", user, shown(a), e, want)
		}
	}
	// A table without rows that are seen is as one without rows.
	q.From = append(q.From, api.Item{Table: "a", As: "b"})
	if a, e := Run(withTables(x), "we", q); shown(a) != "||0" || e != api.OK {
		t.Errorf("Run for we: %s, %d", shown(a), e)
	}
}

// TestQuietFunctionsAreQuiet is the end of P11.
func TestQuietFunctionsAreQuiet(t *testing.T) {
	g := &sampler{random: rand.New(rand.NewSource(14))}
	quietOnes := 0
	for range 1000 {
		g.funcs = nil
		var b api.Base
		for len(b.Funcs) < api.MaxFuncs {
			f := g.function()
			if f.wrongWith() != api.OK {
				continue
			}
			g.funcs = append(g.funcs, f)
			b.Funcs = append(b.Funcs, f.given())
		}
		for _, f := range g.funcs {
			if quiet, e := Quiet(b, f.name); !quiet || e != api.OK {
				continue
			}
			quietOnes++
			for range 5 {
				if _, notes, e := Call(b, "me", f.name, g.arguments(f.args)); len(notes) > 0 || e != api.OK {
					t.Fatalf("the quiet %s: %q, %d", f.body.text, notes, e)
				}
			}
		}
	}
	if quietOnes < 500 {
		t.Errorf("only %d quiet functions", quietOnes)
	}
}
