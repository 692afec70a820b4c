package curtain

import (
	"math"
	"slices"
	"testing"

	"curtain/api"
)

// said is a table with the columns k, m (n), s (t) and h (b), of which sizes are said.
func said(name string, count int, distinct ...int) api.Table {
	x := people()
	x.Name, x.Count, x.Rows = name, count, nil
	x.Cols = []api.Column{col("k", "n"), col("m", "n"), col("s", "t"), col("h", "b")}
	for i, d := range distinct {
		x.Cols[i].Distinct = d
	}
	return x
}

// from names items by their tables: of a table x the items x, x1, x2 ..
func from(names ...string) []api.Item {
	var list []api.Item
	for _, as := range names {
		list = append(list, api.Item{Table: as[:1], As: as})
	}
	return list
}

func plain(from []api.Item, where string) api.Query {
	return api.Query{From: from, Where: where, Outs: []string{"1"}, Limit: -1}
}

func saidBase(tables ...api.Table) api.Base {
	return api.Base{Funcs: helpers(), Tables: tables}
}

func wantCost(t *testing.T, b api.Base, q api.Query, order []int, want int, wantErr api.Errno) {
	t.Helper()
	if got, e := Cost(b, "me", q, order); got != want || e != wantErr {
		t.Errorf("Cost of %v of %+v where %s: %d, %d, want %d, %d", order, q.From, q.Where, got, e, want, wantErr)
	}
}

func TestCostOfDocument(t *testing.T) {
	b := saidBase(said("a", 100, 50), said("b", 10, 10))
	q := plain(from("a", "b"), "(and (= a.k b.k) (< a.k 5))")
	wantCost(t, b, q, []int{0, 1}, 39, api.OK)
	wantCost(t, b, q, []int{1, 0}, 16, api.OK)
}

func TestCostOfOrdersThatAreNone(t *testing.T) {
	b := saidBase(said("a", 10), said("b", 10), said("c", 10))
	for _, c := range []struct {
		items []string
		wrong [][]int
	}{
		{[]string{"a"}, [][]int{nil, {}, {1}, {-1}, {0, 0}, {0, 1}, {math.MaxInt}, {math.MinInt}}},
		{[]string{"a", "b"}, [][]int{nil, {0}, {1}, {0, 0}, {1, 1}, {0, 2}, {2, 1}, {-1, 0}, {1, 2}, {0, 1, 0}, {0, 1, 2}, {0, 64}, {64, 1}, {0, -64}}},
		{[]string{"a", "b", "c", "a1"}, [][]int{nil, {0, 1, 2}, {0, 1, 2, 2}, {0, 1, 3, 3}, {3, 2, 1, 3}, {1, 2, 3, 4}, {0, 1, 2, -1}, {0, 1, 2, 3, 0}, {0, 1, 2, 3, 4}, make([]int, 1000000)}},
	} {
		for _, order := range c.wrong {
			wantCost(t, b, plain(from(c.items...), ""), order, 0, api.ErrArg)
		}
	}
	wantCost(t, b, plain(from("a"), ""), []int{0}, 10, api.OK)
	for _, order := range [][]int{{0, 1, 2}, {0, 2, 1}, {1, 0, 2}, {1, 2, 0}, {2, 0, 1}, {2, 1, 0}} {
		wantCost(t, b, plain(from("a", "b", "c"), ""), order, 1110, api.OK)
	}
}

func TestCostsAreSumsOfEstimates(t *testing.T) {
	b := saidBase(said("a", 2), said("b", 3), said("c", 5), said("d", 7))
	q := plain(from("a", "b", "c", "d"), "")
	wantCost(t, b, q, []int{0, 1, 2, 3}, 2+6+30+210, api.OK)
	wantCost(t, b, q, []int{3, 2, 1, 0}, 7+35+105+210, api.OK)
	wantCost(t, b, q, []int{2, 0, 3, 1}, 5+10+70+210, api.OK)
	wantCost(t, b, plain(from("c", "c1", "c2", "c3"), ""), []int{3, 1, 0, 2}, 5+25+125+625, api.OK)
	// A part counts from the set on that has all of its items.
	where := "(and (< a.k b.k) (< (+ b.k c.k) (+ d.k 1)) (< d.k 3))"
	wantCost(t, b, plain(from("a", "b", "c", "d"), where), []int{0, 1, 2, 3}, 2+2+10+210/3/3/3, api.OK)
	wantCost(t, b, plain(from("a", "b", "c", "d"), where), []int{3, 2, 1, 0}, 2+11+105/3/3+210/3/3/3, api.OK)
	wantCost(t, b, plain(from("a", "b", "c", "d"), where), []int{2, 3, 0, 1}, 5+11+23+210/3/3/3, api.OK)
}

// wantEstimates asks what two items a and b, with 1000 and 700 rows, come to, each alone and both.
func wantEstimates(t *testing.T, where string, a, b, both int) {
	t.Helper()
	base := saidBase(said("a", 1000, 10, 20, 40, 2), said("b", 700, 30, 7, 100, 11))
	q := plain(from("a", "b"), where)
	wantCost(t, base, q, []int{0, 1}, a+both, api.OK)
	wantCost(t, base, q, []int{1, 0}, b+both, api.OK)
}

func TestDivisors(t *testing.T) {
	const a, b, both = 1000, 700, 700000
	wantEstimates(t, "", a, b, both)
	// A column on both sides, of two items: the greater Distinct.
	wantEstimates(t, "(= a.k b.k)", a, b, both/30)
	wantEstimates(t, "(= b.k a.k)", a, b, both/30)
	wantEstimates(t, "(= a.m b.m)", a, b, both/20)
	wantEstimates(t, "(= b.m a.k)", a, b, both/10)
	wantEstimates(t, "(= a.s b.s)", a, b, both/100)
	wantEstimates(t, "(= a.h b.h)", a, b, both/11)
	// A column on both sides, of one item.
	wantEstimates(t, "(= a.k a.m)", a/3, b, both/3)
	wantEstimates(t, "(= b.k b.k)", a, b/3, both/3)
	// A column on one side, none anywhere on the other.
	wantEstimates(t, "(= a.k 5)", a/10, b, both/10)
	wantEstimates(t, "(= 5 a.k)", a/10, b, both/10)
	wantEstimates(t, "(= a.m (+ 1 (* 2 3)))", a/20, b, both/20)
	wantEstimates(t, "(= user b.s)", a, b/100, both/100)
	wantEstimates(t, "(= a.s 'x')", a/40, b, both/40)
	wantEstimates(t, "(= (isnull (len user)) b.h)", a, b/11, both/11)
	wantEstimates(t, "(= a.h true)", a/2, b, both/2)
	wantEstimates(t, "(= a.h (small 4))", a/2, b, both/2)
	wantEstimates(t, "(= (note 5) a.k)", a/10, b, both/10)
	// A column on one side, and one somewhere on the other.
	wantEstimates(t, "(= a.k (+ a.k 1))", a/3, b, both/3)
	wantEstimates(t, "(= (+ 1 (* 2 b.k)) a.k)", a, b, both/3)
	wantEstimates(t, "(= a.h (small b.k))", a, b, both/3)
	wantEstimates(t, "(= a.k (note b.k))", a, b, both/3)
	wantEstimates(t, "(= (if true b.h b.h) a.h)", a, b, both/3)
	// No side is a column.
	wantEstimates(t, "(= (note a.k) 5)", a/3, b, both/3)
	wantEstimates(t, "(= 5 (+ b.k 0))", a, b/3, both/3)
	wantEstimates(t, "(= (+ a.k 1) (+ b.k 1))", a, b, both/3)
	// Other heads, and none.
	wantEstimates(t, "(< a.k 5)", a/3, b, both/3)
	wantEstimates(t, "(<= a.k b.k)", a, b, both/3)
	wantEstimates(t, "(not (= a.k 5))", a/3, b, both/3)
	wantEstimates(t, "(or (= a.k b.k))", a, b, both/3)
	wantEstimates(t, "(if true (= a.k 5) false)", a/3, b, both/3)
	wantEstimates(t, "(isnull b.k)", a, b/3, both/3)
	wantEstimates(t, "(small b.k)", a, b/3, both/3)
	wantEstimates(t, "a.h", a/3, b, both/3)
	wantEstimates(t, "b.h", a, b/3, both/3)
	// Parts without items.
	for _, where := range []string{"true", "(= 1 1)", "(= user 'me')", "(note false)", "(small 3)", "(or true (isnull 1))"} {
		wantEstimates(t, where, a, b, both)
	}
}

func TestDivisorsOfOneTableTwice(t *testing.T) {
	b := saidBase(said("a", 1000, 10, 20, 40, 2))
	q := plain(from("a", "a1"), "(= a.k a1.k)")
	wantCost(t, b, q, []int{0, 1}, 1000+100000, api.OK)
	q.Where = "(= a1.m a.k)"
	wantCost(t, b, q, []int{0, 1}, 1000+50000, api.OK)
	q.Where = "(= a1.m 3)"
	wantCost(t, b, q, []int{0, 1}, 1000+50000, api.OK)
	wantCost(t, b, q, []int{1, 0}, 50+50000, api.OK)
	q.Where = "(= a1.m a1.k)"
	wantCost(t, b, q, []int{1, 0}, 333+333333, api.OK)
}

func TestPartsOfConditions(t *testing.T) {
	const a, b, both = 1000, 700, 700000
	wantEstimates(t, "(and a.h)", a/3, b, both/3)
	wantEstimates(t, "(and a.h a.h)", a/3/3, b, both/3/3)
	wantEstimates(t, "(and a.h (and b.h (and (= a.k 1) (= b.k a.k))) true)", a/3/10, b/3, both/3/3/10/30)
	wantEstimates(t, "(and (and (and (and (= a.k 1)))))", a/10, b, both/10)
	wantEstimates(t, "(and (and a.h) (and a.h) (and a.h))", a/3/3/3, b, both/3/3/3)
	// An and elsewhere is of one part.
	wantEstimates(t, "(not (and (= a.k 1) a.h))", a/3, b, both/3)
	wantEstimates(t, "(or (and a.h b.h))", a, b, both/3)
	wantEstimates(t, "(and (or (and a.h a.h) a.h) b.h)", a/3, b/3, both/3/3)
	wantEstimates(t, "(= true (and a.h a.h))", a/3, b, both/3)
	wantEstimates(t, "(note (and a.h a.h))", a/3, b, both/3)
}

func TestPartsDivideOneByOne(t *testing.T) {
	// 100 by 7 by 3 is 14 by 3, so 4; 20 by 7 by 3 is 2 by 3, which is 1 at least; then 1 stays 1.
	b := saidBase(said("a", 100, 7), said("b", 20, 7), said("c", 1, 7), said("d", 6, 7))
	for as, want := range map[string]int{"a": 4, "b": 1, "c": 1, "d": 1} {
		wantCost(t, b, plain(from(as), "(and (= "+as+".k 1) "+as+".h)"), []int{0}, want, api.OK)
		wantCost(t, b, plain(from(as), "(and"+times(50, as+".h")+")"), []int{0}, 1, api.OK)
	}
	// What is divided in a greater set is the product of the Counts, not of the lesser sets' estimates.
	wantCost(t, b, plain(from("b", "d"), "(and (= b.k 1) (= d.k 1))"), []int{0, 1}, 2+120/7/7, api.OK)
	wantCost(t, b, plain(from("b", "d"), "(and (= b.k 1) (= d.k 1))"), []int{1, 0}, 1+120/7/7, api.OK)
	// A divisor of 1 leaves all.
	b.Tables[0].Cols[0].Distinct = 1
	wantCost(t, b, plain(from("a"), "(= a.k 1)"), []int{0}, 100, api.OK)
	b.Tables[0].Cols[0].Distinct = api.MaxCount
	wantCost(t, b, plain(from("a"), "(= a.k 1)"), []int{0}, 1, api.OK)
}

func TestCostsOfNoRows(t *testing.T) {
	b := saidBase(said("a", 0, 7), said("b", 20, 7), said("c", api.MaxCount))
	for _, where := range []string{"", "a.h", "(= a.k 1)", "(and (= a.k 1) a.h)"} {
		wantCost(t, b, plain(from("a"), where), []int{0}, 0, api.OK)
	}
	for _, where := range []string{"", "(= a.k b.k)", "(and (= a.k b.k) a.h)", "(< a.k b.k)"} {
		wantCost(t, b, plain(from("a", "b"), where), []int{0, 1}, 0, api.OK)
		wantCost(t, b, plain(from("a", "b"), where), []int{1, 0}, 20, api.OK)
	}
	// Nothing is left of any number of rows, even where they were cut off.
	wantCost(t, b, plain(from("c", "c1", "c2", "a"), ""), []int{0, 1, 2, 3}, api.MaxCost, api.OK)
	wantCost(t, b, plain(from("c", "c1", "c2", "a"), ""), []int{3, 1, 2, 0}, 0, api.OK)
	wantCost(t, b, plain(from("c", "c1", "a"), "(and (= c.k c1.k) (= c.k 1))"), []int{1, 0, 2}, 1000000+1000000000000/3/3, api.OK)
}

func TestCostsAreCutOff(t *testing.T) {
	const most = api.MaxCost
	b := saidBase(said("a", api.MaxCount, api.MaxCount, 10), said("b", api.MaxCount-1, 2), said("c", 1), said("d", 2))
	all := []int{0, 1, 2, 3}
	wantCost(t, b, plain(from("a"), ""), []int{0}, api.MaxCount, api.OK)
	wantCost(t, b, plain(from("b", "b1"), ""), []int{0, 1}, 999999+999999*999999, api.OK)
	wantCost(t, b, plain(from("b", "a"), ""), []int{0, 1}, 999999+999999000000, api.OK)
	// 999999 x 1000000 and 1000000 are MaxCost together: nothing is cut off yet.
	wantCost(t, b, plain(from("b", "a"), ""), []int{1, 0}, most, api.OK)
	wantCost(t, b, plain(from("c", "b", "a"), ""), []int{0, 2, 1}, most, api.OK)
	wantCost(t, b, plain(from("a", "a1"), ""), []int{0, 1}, most, api.OK)
	wantCost(t, b, plain(from("a", "a1", "a2", "a3"), ""), all, most, api.OK)
	wantCost(t, b, plain(from("a", "a1", "d"), ""), []int{2, 0, 1}, most, api.OK)
	// What is divided is cut off ahead of that.
	wantCost(t, b, plain(from("a", "a1"), "(= a.k a1.k)"), []int{0, 1}, 1000000+1000000, api.OK)
	wantCost(t, b, plain(from("a", "a1", "a2"), "(and (= a.k 1) (= a1.k a.k))"), []int{0, 1, 2}, 1+1+1, api.OK)
	wantCost(t, b, plain(from("a", "a1", "d"), "(= a.k 1)"), []int{0, 1, 2}, 1+1000000+1000000, api.OK)
	wantCost(t, b, plain(from("a", "a1", "a2", "a3"), "(and (= a.m 1) (= a1.m 1) (= a2.m 1))"), []int{0, 1, 2, 3}, 100000+10000000000+1000000000+1000000000, api.OK)
	// The sum is cut off too.
	wantCost(t, b, plain(from("b", "b1", "d"), "(and (= b.k 1) true)"), []int{0, 1, 2}, 499999+999998000001/2+most/2, api.OK)
	wantCost(t, b, plain(from("b", "b1", "d"), ""), []int{0, 1, 2}, most, api.OK)
	wantCost(t, b, plain(from("b", "b1", "c"), ""), []int{0, 1, 2}, most, api.OK)
}

func TestCostsDoNotHangOnRows(t *testing.T) {
	b := saidBase(said("a", 100, 50), said("b", 10, 10))
	q := plain(from("a", "b"), "(and (= a.k b.k) (note (< a.k 5)))")
	cost, _ := Cost(b, "me", q, []int{0, 1})
	steps, _ := Plan(b, "me", q)
	for _, rows := range [][][]api.Cell{{}, {{num(1), num(2), txt("x"), yes()}}, slices.Repeat([][]api.Cell{{nothing, nothing, nothing, no()}}, 10)} {
		b.Tables[0].Rows, b.Tables[1].Rows = rows, rows
		wantCost(t, b, q, []int{0, 1}, cost, api.OK)
		wantPlan(t, b, q, steps)
	}
}
