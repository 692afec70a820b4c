package curtain

import (
	"fmt"
	"math/big"
	"math/rand"
	"slices"
	"strings"
	"testing"

	"curtain/api"
)

// samplePart is a grown part, beside what the document says of it.
type samplePart struct {
	text    string
	items   []int
	divisor int
	quiet   bool
}

// sampleQuery is a grown query, with its parts.
type sampleQuery struct {
	base  api.Base
	query api.Query
	parts []samplePart
}

func (g *sampler) count() int {
	return []int{0, 1, 1, 2, 3, 5, 5, 10, 100, 1000, 30000, 999999, 1000000}[g.random.Intn(13)]
}

func (g *sampler) distinct() int { return max(g.count(), 1) }

func (g *sampler) queryBase() api.Base {
	b := saidBase()
	for _, name := range strings.Split("abcd", "")[:1+g.random.Intn(4)] {
		b.Tables = append(b.Tables, said(name, g.count(), g.distinct(), g.distinct()))
	}
	return b
}

// column is a column of an item, and its Distinct.
func (s *sampleQuery) column(item, place int) (string, int) {
	for _, x := range s.base.Tables {
		if x.Name == s.query.From[item].Table {
			return s.query.From[item].As + "." + x.Cols[place].Name, x.Cols[place].Distinct
		}
	}
	panic("no such table")
}

// part grows a part of two items that may be one; _ and ^ stand for a column of each.
func (g *sampler) part(s *sampleQuery) samplePart {
	one, other := g.random.Intn(len(s.query.From)), g.random.Intn(len(s.query.From))
	left, distinct := s.column(one, g.random.Intn(2))
	right, otherDistinct := s.column(other, g.random.Intn(2))
	both := []int{one, other}
	divisor := 3
	if one != other {
		divisor = max(distinct, otherDistinct)
	}
	list := []samplePart{
		{"(= _ ^)", both, divisor, true}, {"(= _ ^)", both, divisor, true}, {"(= _ ^)", both, divisor, true},
		{"(= _ 5)", both[:1], distinct, true}, {"(= (len user) _)", both[:1], distinct, true}, {"(= _ (+ 1 2))", both[:1], distinct, false},
		{"(= _ (+ ^ 1))", both, 3, false}, {"(= (if (< 1 2) ^ 3) _)", both, 3, true}, {"(= (note _) 4)", both[:1], 3, false},
		{"(< _ ^)", both, 3, true}, {"(small _)", both[:1], 3, true}, {"(loud (= _ 1))", both[:1], 3, false}, {"(not (= _ ^))", both, 3, true},
		{"(or (= _ 5) (note false))", both[:1], 3, false}, {"(or (and (= _ 5) (= ^ 6)))", both, 3, true}, {"(even _ (isnull ^))", both, 3, true},
		{"true", nil, 0, true}, {"(note true)", nil, 0, false}, {"(= user 'me')", nil, 0, true},
	}
	p := list[g.random.Intn(len(list))]
	p.text = strings.NewReplacer("_", left, "^", right).Replace(p.text)
	return p
}

// join writes parts as one condition, with more of and than there need be.
func (g *sampler) join(parts []samplePart) string {
	if len(parts) == 1 && g.random.Intn(3) > 0 {
		return parts[0].text
	}
	s := "(and"
	for len(parts) > 0 {
		n := 1
		if g.random.Intn(4) == 0 {
			n += g.random.Intn(len(parts))
		}
		s += " " + g.join(parts[:n])
		parts = parts[n:]
	}
	return s + ")"
}

func (g *sampler) query() sampleQuery {
	s := sampleQuery{base: g.queryBase(), query: plain(nil, "")}
	for i := range 1 + g.random.Intn(api.MaxItems) {
		table := s.base.Tables[g.random.Intn(len(s.base.Tables))].Name
		s.query.From = append(s.query.From, api.Item{Table: table, As: fmt.Sprintf("%s%d", table, i)})
	}
	for range g.random.Intn(7) {
		s.parts = append(s.parts, g.part(&s))
	}
	if len(s.parts) > 0 {
		s.query.Where = g.join(s.parts)
	}
	return s
}

func within(list, other []int) bool {
	return !slices.ContainsFunc(list, func(i int) bool { return !slices.Contains(other, i) })
}

func cutOff(n *big.Int) *big.Int {
	if most := big.NewInt(api.MaxCost); n.Cmp(most) > 0 {
		return most
	}
	return n
}

func (s *sampleQuery) estimate(items []int) *big.Int {
	n := big.NewInt(1)
	for _, item := range slices.Sorted(slices.Values(items)) {
		for _, x := range s.base.Tables {
			if x.Name == s.query.From[item].Table {
				n = cutOff(n.Mul(n, big.NewInt(int64(x.Count))))
			}
		}
	}
	for _, p := range s.parts {
		if len(p.items) > 0 && within(p.items, items) && n.Sign() != 0 {
			n.Div(n, big.NewInt(int64(p.divisor)))
			if n.Sign() == 0 {
				n.SetInt64(1)
			}
		}
	}
	return n
}

func (s *sampleQuery) cost(order []int) int {
	sum := new(big.Int)
	for i := range order {
		sum.Add(sum, s.estimate(order[:i+1]))
	}
	return int(cutOff(sum).Int64())
}

// orders are all orders of n items, the least numbers first.
func orders(begun []int, n int) [][]int {
	if len(begun) == n {
		return [][]int{begun}
	}
	var list [][]int
	for i := range n {
		if !slices.Contains(begun, i) {
			list = append(list, orders(append(slices.Clone(begun), i), n)...)
		}
	}
	return list
}

func (s *sampleQuery) steps(order []int) []api.Step {
	var list []api.Step
	done := make([]bool, len(s.parts))
	for i, item := range order {
		x := step(item)
		for _, quiet := range []bool{true, false} {
			for j, p := range s.parts {
				if !done[j] && p.quiet == quiet && within(p.items, order[:i+1]) {
					done[j] = true
					x.Parts = append(x.Parts, j)
				}
			}
		}
		list = append(list, x)
	}
	return list
}

func TestGrownQueries(t *testing.T) {
	g := &sampler{random: rand.New(rand.NewSource(7))}
	byItems, ties, cut := map[int]int{}, 0, 0
	for range 4000 {
		s := g.query()
		if len(s.query.Where) > api.MaxText {
			continue
		}
		least, best := api.MaxCost+1, []int(nil)
		for _, order := range orders(nil, len(s.query.From)) {
			cost := s.cost(order)
			wantCost(t, s.base, s.query, order, cost, api.OK)
			if cost == least {
				ties++
			}
			if cost == api.MaxCost {
				cut++
			}
			if cost < least {
				least, best = cost, order
			}
		}
		wantPlan(t, s.base, s.query, s.steps(best))
		byItems[len(s.query.From)]++
		if t.Failed() {
			t.Fatalf("of the base %+v", s.base)
		}
	}
	for n := 1; n <= api.MaxItems; n++ {
		if byItems[n] < 500 {
			t.Errorf("only %d queries have %d items", byItems[n], n)
		}
	}
	if ties < 500 || cut < 500 {
		t.Errorf("only %d orders cost as much as a lesser one, %d are cut off", ties, cut)
	}
}

// TestNoOrderCostsLessThanThePlan is P13, by the calls alone.
func TestNoOrderCostsLessThanThePlan(t *testing.T) {
	g := &sampler{random: rand.New(rand.NewSource(8))}
	for range 500 {
		s := g.query()
		plan, e := Plan(s.base, "me", s.query)
		if e != api.OK {
			continue
		}
		var order []int
		for _, x := range plan {
			order = append(order, x.Item)
		}
		least, e := Cost(s.base, "me", s.query, order)
		if e != api.OK {
			t.Fatalf("the plan %+v is of no order: %d", plan, e)
		}
		for _, other := range orders(nil, len(s.query.From)) {
			if cost, _ := Cost(s.base, "me", s.query, other); cost < least {
				t.Errorf("%v costs %d, the plan %v %d", other, cost, order, least)
			}
		}
	}
}
