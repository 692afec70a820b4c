package curtain

import (
	"fmt"
	"math/rand"
	"regexp"
	"slices"
	"sort"
	"strconv"
	"strings"
	"testing"

	"curtain/api"
)

// sampleRun is a grown query, of which the columns are the parameters of its parts and Outs, all items' in order.
type sampleRun struct {
	base        api.Base
	query       api.Query
	columns     []string
	parts, outs []sample
}

func lettersOf(x api.Table) string {
	letters := ""
	for _, c := range x.Cols {
		letters += c.Type
	}
	return letters
}

func tableNamed(b api.Base, name string) api.Table {
	i := slices.IndexFunc(b.Tables, func(x api.Table) bool { return x.Name == name })
	return b.Tables[i]
}

// saySizes says other sizes of all tables; what is read of the base before stays as it was.
func (g *sampler) saySizes(b api.Base) api.Base {
	b.Tables = slices.Clone(b.Tables)
	for i := range b.Tables {
		x := &b.Tables[i]
		x.Count, x.Cols = g.count(), slices.Clone(x.Cols)
		for j := range x.Cols {
			x.Cols[j].Distinct = g.distinct()
		}
	}
	return b
}

// runBase grows tables with grown policies, and functions.
func (g *sampler) runBase() api.Base {
	var b api.Base
	for _, name := range strings.Split("abcd", "")[:1+g.random.Intn(4)] {
		x, f := g.grownTable()
		if g.random.Intn(3) == 0 || f.wrongWith() != api.OK || len(x.Policy) > api.MaxText {
			x.Policy = "(not (isnull row.c1))"
		}
		x.Name = name
		x.Rows = x.Rows[:min(len(x.Rows), 5)]
		b.Tables = append(b.Tables, x)
	}
	g.funcs = nil
	for range 3 {
		if f := g.function(); f.wrongWith() == api.OK {
			g.funcs = append(g.funcs, f)
			b.Funcs = append(b.Funcs, f.given())
		}
	}
	return g.saySizes(b)
}

// whole grows an expression of a type that is no and, so that it is one part.
func (g *sampler) whole(letter string) sample {
	for {
		if s := g.grow(g.random.Intn(4), letter); !strings.HasPrefix(s.text, "(and") && s.size < 40 {
			return s
		}
	}
}

// condition grows a part; of those with a column there are more than would grow by chance.
func (g *sampler) condition() sample {
	if g.random.Intn(2) == 0 {
		return g.whole("b")
	}
	i := g.random.Intn(len(g.params))
	column := sample{text: fmt.Sprintf("$%d", i+1), size: 1, quiet: true, value: func(tr *trial) api.Cell { return tr.args[i] }}
	if g.random.Intn(2) == 0 {
		operand := []sample{column}
		is := bracket("isnull", api.OK, true, operand, func(tr *trial) api.Cell {
			if column.value(tr) == nothing {
				return yes()
			}
			return no()
		})
		return bracket("not", api.OK, true, []sample{is}, func(tr *trial) api.Cell {
			c := is.value(tr)
			c.N = 1 - c.N
			return c
		})
	}
	both := []sample{column, g.whole(g.params[i : i+1])}
	return bracket("<=", api.OK, true, both, func(tr *trial) api.Cell {
		cells, full := all(tr, both)
		if !full {
			return nothing
		}
		if cells[0].N < cells[1].N || cells[0].S < cells[1].S || cells[0] == cells[1] {
			return yes()
		}
		return no()
	})
}

var parameters = regexp.MustCompile(`\$[0-9]+`)

// named writes the columns of a grown text by their names.
func (s *sampleRun) named(text string) string {
	return parameters.ReplaceAllStringFunc(text, func(p string) string {
		n, _ := strconv.Atoi(p[1:])
		return s.columns[n-1]
	})
}

func (g *sampler) run() sampleRun {
	s := sampleRun{base: g.runBase(), query: api.Query{Limit: -1}}
	g.params = ""
	for i := range 1 + g.random.Intn(api.MaxItems) {
		x := s.base.Tables[g.random.Intn(len(s.base.Tables))]
		as := fmt.Sprintf("%s%d", x.Name, i)
		s.query.From = append(s.query.From, api.Item{Table: x.Name, As: as})
		g.params += lettersOf(x)
		for _, c := range x.Cols {
			s.columns = append(s.columns, as+"."+c.Name)
		}
	}
	var texts []samplePart
	for range g.random.Intn(4) {
		p := g.condition()
		s.parts = append(s.parts, p)
		texts = append(texts, samplePart{text: s.named(p.text)})
	}
	if len(texts) > 0 {
		s.query.Where = g.join(texts)
	}
	for range 1 + g.random.Intn(api.MaxOuts) {
		o := g.whole(g.one("n", "t", "b"))
		s.outs = append(s.outs, o)
		s.query.Outs = append(s.query.Outs, s.named(o.text))
	}
	for range g.random.Intn(api.MaxOuts + 1) {
		s.query.Order = append(s.query.Order, api.Key{Out: g.random.Intn(len(s.outs)), Down: g.random.Intn(2) == 0})
	}
	if len(s.query.Order) > 0 {
		s.query.Limit = []int{-1, -1, 0, 1, 2, 5, 1000}[g.random.Intn(7)]
	}
	return s
}

// put writes a row of an item into the cells of all columns.
func (s *sampleRun) put(cells []api.Cell, item, number int) {
	place := 0
	for _, other := range s.query.From[:item] {
		place += len(tableNamed(s.base, other.Table).Cols)
	}
	copy(cells[place:], tableNamed(s.base, s.query.From[item].Table).Rows[number])
}

// through goes through the query a second time, by the plan that is told; rows are kept by the numbers of which they are made.
func (s *sampleRun) through(plan []api.Step) (rows map[[api.MaxItems]int][]api.Cell, notes []string, fault api.Errno) {
	tr := &trial{args: make([]api.Cell, len(s.columns))}
	rows = map[[api.MaxItems]int][]api.Cell{}
	defer func() {
		notes = tr.notes
		if x := recover(); x != nil {
			rows, fault = nil, x.(api.Errno)
		}
	}()
	var place [api.MaxItems]int
	var step func(i int)
	step = func(i int) {
		if i == len(plan) {
			rows[place], _ = all(tr, s.outs)
			return
		}
		seen, _ := See(s.base, "me", s.query.From[plan[i].Item].Table)
	rows:
		for _, number := range seen {
			place[plan[i].Item] = number
			s.put(tr.args, plan[i].Item, number)
			for _, part := range plan[i].Parts {
				if s.parts[part].value(tr) != yes() {
					continue rows
				}
			}
			step(i + 1)
		}
	}
	step(0)
	return rows, nil, api.OK
}

func isBelow(a, b api.Cell) bool {
	if a == nothing || b == nothing {
		return a == nothing && b != nothing
	}
	return a.N < b.N || a.S < b.S
}

// answer is the second answer: rows by their numbers, sorted by one key at a time, the last one first.
func (s *sampleRun) answer(plan []api.Step) api.Answer {
	rows, notes, fault := s.through(plan)
	var places [][api.MaxItems]int
	for place := range rows {
		places = append(places, place)
	}
	slices.SortFunc(places, func(a, b [api.MaxItems]int) int { return slices.Compare(a[:], b[:]) })
	a := api.Answer{Notes: notes, Fault: fault}
	for _, place := range places {
		a.Rows = append(a.Rows, rows[place])
	}
	for _, key := range slices.Backward(s.query.Order) {
		sort.SliceStable(a.Rows, func(i, j int) bool {
			if key.Down {
				i, j = j, i
			}
			return isBelow(a.Rows[i][key.Out], a.Rows[j][key.Out])
		})
	}
	if s.query.Limit >= 0 && s.query.Limit < len(a.Rows) {
		a.Rows = a.Rows[:s.query.Limit]
	}
	return a
}

// someRun grows a right query, and tells its plan.
func (g *sampler) someRun(t *testing.T) (sampleRun, []api.Step) {
	for {
		s := g.run()
		plan, e := Plan(s.base, "me", s.query)
		if e == api.OK {
			return s, plan
		}
		if e != api.ErrText && e != api.ErrSize {
			t.Fatalf("%+v of %+v: %d", s.query, s.base, e)
		}
	}
}

// inItemsOrder tells whether a plan goes through the items as the query has them.
func inItemsOrder(plan []api.Step) bool {
	return slices.IsSortedFunc(plan, func(a, b api.Step) int { return a.Item - b.Item })
}

func TestGrownRuns(t *testing.T) {
	g := &sampler{random: rand.New(rand.NewSource(11))}
	faults, rows, noted, otherOrder, limited := map[api.Errno]int{}, 0, 0, 0, 0
	for range 6000 {
		s, plan := g.someRun(t)
		want := s.answer(plan)
		a, e := Run(s.base, "me", s.query)
		if shown(a) != shown(want) || e != api.OK {
			t.Fatalf("Run of %+v of %+v: %s, %d, want %s", s.query, s.base, shown(a), e, shown(want))
		}
		faults[a.Fault]++
		if len(a.Rows) > 1 {
			rows++
			if !inItemsOrder(plan) {
				otherOrder++
			}
			if len(a.Rows) == s.query.Limit {
				limited++
			}
		}
		if len(a.Notes) > 1 {
			noted++
		}
	}
	for _, fault := range []api.Errno{api.OK, api.Zero, api.Over, api.Long} {
		if faults[fault] < 50 {
			t.Errorf("only %d answers have the fault %d", faults[fault], fault)
		}
	}
	if rows < 500 || noted < 500 || otherOrder < 200 || limited < 50 {
		t.Errorf("only %d answers have some rows, %d notes, %d another order than the items', %d as many as the Limit", rows, noted, otherOrder, limited)
	}
}

// TestSizesDoNotMatter is P12.
func TestSizesDoNotMatter(t *testing.T) {
	g := &sampler{random: rand.New(rand.NewSource(12))}
	otherPlans, otherNotes := 0, 0
	for range 3000 {
		s, plan := g.someRun(t)
		a, _ := Run(s.base, "me", s.query)
		for range 3 {
			other := g.saySizes(s.base)
			c, e := Run(other, "me", s.query)
			if e != api.OK {
				t.Fatalf("Run with other sizes: %d", e)
			}
			if a.Fault != api.OK || c.Fault != api.OK {
				continue
			}
			if shown(api.Answer{Rows: a.Rows}) != shown(api.Answer{Rows: c.Rows}) {
				t.Fatalf("Run of %+v of %+v: %s, with other sizes %s", s.query, s.base, shown(a), shown(c))
			}
			otherPlan, _ := Plan(other, "me", s.query)
			if inItemsOrder(plan) != inItemsOrder(otherPlan) && len(a.Rows) > 1 {
				otherPlans++
			}
			if !slices.Equal(a.Notes, c.Notes) {
				otherNotes++
			}
		}
	}
	if otherPlans < 200 || otherNotes < 50 {
		t.Errorf("only %d other plans with rows, %d other notes", otherPlans, otherNotes)
	}
}
