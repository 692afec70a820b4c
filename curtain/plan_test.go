package curtain

import (
	"reflect"
	"strings"
	"testing"

	"curtain/api"
)

// step is an item and its parts.
func step(item int, parts ...int) api.Step { return api.Step{Item: item, Parts: parts} }

func steps(list ...api.Step) []api.Step { return list }

// told is a plan of which lists of nothing are nil.
func told(plan []api.Step) []api.Step {
	var list []api.Step
	for _, s := range plan {
		list = append(list, step(s.Item, append([]int(nil), s.Parts...)...))
	}
	return list
}

func wantPlan(t *testing.T, b api.Base, q api.Query, want []api.Step) {
	t.Helper()
	got, e := Plan(b, "me", q)
	if !reflect.DeepEqual(told(got), told(want)) || e != api.OK {
		t.Errorf("Plan of %+v where %s: %+v, %d, want %+v", q.From, q.Where, got, e, want)
	}
}

func TestPlanOfDocument(t *testing.T) {
	b := saidBase(said("a", 100, 50), said("b", 10, 10))
	wantPlan(t, b, plain(from("a", "b"), "(and (= a.k b.k) (< a.k 5))"), steps(step(1), step(0, 0, 1)))
	wantPlan(t, b, plain(from("a", "b"), "(and (note (= a.k b.k)) (< a.k 5))"), steps(step(1), step(0, 1, 0)))
}

func TestPlansOfOneToFourItems(t *testing.T) {
	b := saidBase(said("a", 1000, 10), said("b", 20, 100), said("c", 5, 5), said("d", 300, 300))
	wantPlan(t, b, plain(from("a"), ""), steps(step(0)))
	wantPlan(t, b, plain(from("a"), "(and a.h (= a.k 1))"), steps(step(0, 0, 1)))
	wantPlan(t, b, plain(from("a", "b"), ""), steps(step(1), step(0)))
	wantPlan(t, b, plain(from("b", "a"), ""), steps(step(0), step(1)))
	wantPlan(t, b, plain(from("a", "b"), "(and a.h a.h a.h a.h)"), steps(step(0, 0, 1, 2, 3), step(1)))
	wantPlan(t, b, plain(from("a", "b", "c"), ""), steps(step(2), step(1), step(0)))
	wantPlan(t, b, plain(from("c", "a", "b"), ""), steps(step(0), step(2), step(1)))
	wantPlan(t, b, plain(from("a", "b", "c"), "(and (= a.k b.k) (= b.k c.k))"), steps(step(2), step(1, 1), step(0, 0)))
	wantPlan(t, b, plain(from("a", "b", "c", "d"), ""), steps(step(2), step(1), step(3), step(0)))
	wantPlan(t, b, plain(from("a", "b", "c", "d"), "(and (= d.k a.k) (= a.k 3) (< b.k c.k))"), steps(step(0, 1), step(3, 0), step(2), step(1, 2)))
	// As d is held to one value, it comes to 1 row, and so do b and c behind it.
	wantPlan(t, b, plain(from("a", "b", "c", "d"), "(and (= a.k c.k) (= d.k 7) (= b.k d.k))"), steps(step(3, 1), step(1, 2), step(2), step(0, 0)))
}

func TestTheCheapestOrderIsNotTheGreedyOne(t *testing.T) {
	b := saidBase(said("a", 10, 1), said("b", 20, 1000), said("c", 1000, 1000))
	q := plain(from("a", "b", "c"), "(= b.k c.k)")
	wantPlan(t, b, q, steps(step(1), step(2, 0), step(0)))
	wantCost(t, b, q, []int{0, 1, 2}, 10+200+200, api.OK)
	wantCost(t, b, q, []int{1, 2, 0}, 20+20+200, api.OK)
}

func TestPlansOfOrdersThatCostTheSame(t *testing.T) {
	b := saidBase(said("a", 5), said("b", 5), said("c", 0), said("d", 1))
	wantPlan(t, b, plain(from("a", "b"), ""), steps(step(0), step(1)))
	wantPlan(t, b, plain(from("b", "a"), ""), steps(step(0), step(1)))
	wantPlan(t, b, plain(from("a", "b", "a1", "b1"), ""), steps(step(0), step(1), step(2), step(3)))
	wantPlan(t, b, plain(from("a", "b", "a1"), "(= b.k a1.k)"), steps(step(1), step(2, 0), step(0)))
	// With no rows first, all that follows costs nothing.
	wantPlan(t, b, plain(from("a", "b", "c", "d"), ""), steps(step(2), step(0), step(1), step(3)))
	wantPlan(t, b, plain(from("a", "c", "b", "c1"), "(= a.k b.k)"), steps(step(1), step(0), step(2, 0), step(3)))
	wantPlan(t, b, plain(from("c", "c1", "c2", "c3"), ""), steps(step(0), step(1), step(2), step(3)))
	// With one row each, all orders cost the same.
	wantPlan(t, b, plain(from("d", "d1", "d2", "d3"), "(and (= d3.k d2.k) d1.h)"), steps(step(0), step(1, 1), step(2), step(3, 0)))
	// d, a and a, d come to 1 + 5 and 5 + 5.
	wantPlan(t, b, plain(from("a", "d"), ""), steps(step(1), step(0)))
	// Where all is cut off, all orders from some item on cost the same.
	b = saidBase(said("a", api.MaxCount), said("b", api.MaxCount), said("d", 1))
	wantPlan(t, b, plain(from("a", "b", "a1"), ""), steps(step(0), step(1), step(2)))
	wantPlan(t, b, plain(from("a", "b", "d", "a1"), ""), steps(step(0), step(1), step(2), step(3)))
	wantPlan(t, b, plain(from("b", "a"), "(< a.k 3)"), steps(step(1, 0), step(0)))
}

func TestPlansOfPartsWithoutItems(t *testing.T) {
	b := saidBase(said("a", 100), said("b", 10))
	wantPlan(t, b, plain(from("a"), "true"), steps(step(0, 0)))
	wantPlan(t, b, plain(from("a", "b"), "true"), steps(step(1, 0), step(0)))
	wantPlan(t, b, plain(from("a", "b"), "(note true)"), steps(step(1, 0), step(0)))
	wantPlan(t, b, plain(from("b", "a"), "(= user 'me')"), steps(step(0, 0), step(1)))
	wantPlan(t, b, plain(from("a", "b"), "(and a.h (= 1 1) b.h (small 3) (isnull user))"), steps(step(1, 1, 2, 3, 4), step(0, 0)))
	wantPlan(t, b, plain(from("a", "b"), "(and (= 1 (+ 0 1)) a.h true (loud b.h) b.h (note false))"), steps(step(1, 2, 4, 0, 3, 5), step(0, 1)))
}

func TestQuietPartsComeFirst(t *testing.T) {
	b := saidBase(said("a", 100), said("b", 10))
	wantPlan(t, b, plain(from("a"), "(and (note a.h) a.h (= 0 (+ a.k 1)) (< a.k 1) (= 'x' (cat a.s)) (isnull a.s))"), steps(step(0, 1, 3, 5, 0, 2, 4)))
	for _, loud := range []string{"(loud a.h)", "(louder a.h)", "(isnull (note a.k))", "(= 1 (- a.k 1))", "(= 1 (* a.k 1))", "(= 1 (/ a.k 1))", "(or a.h (loud true))", "(if true a.h (note true))"} {
		wantPlan(t, b, plain(from("a"), "(and "+loud+" a.h "+loud+" a.h)"), steps(step(0, 1, 3, 0, 2)))
	}
	for _, quiet := range []string{"(small a.k)", "(even a.k true)", "(= a.s '(note 1)')", "(or a.h (not a.h))"} {
		wantPlan(t, b, plain(from("a"), "(and "+quiet+" a.h "+quiet+" (note a.h))"), steps(step(0, 0, 1, 2, 3)))
	}
	wantPlan(t, b, plain(from("a", "b"), "(and (loud a.h) (note b.h) (note (= a.k b.k)) (= a.m b.m) a.h b.h (loud true))"), steps(step(1, 5, 1, 6), step(0, 3, 4, 0, 2)))
	wantPlan(t, b, plain(from("a"), "(and (and (note a.h) a.h) (and (and a.h (note a.h))))"), steps(step(0, 1, 2, 0, 3)))
}

func TestPlansOfManyParts(t *testing.T) {
	b := saidBase(said("a", 100))
	var want []int
	for i := range 97 {
		want = append(want, i)
	}
	wantPlan(t, b, plain(from("a"), "(and"+times(97, "a.h")+")"), steps(step(0, want...)))
	wantPlan(t, b, plain(from("a"), strings.Repeat("(and ", 20)+"a.h"+strings.Repeat(")", 20)), steps(step(0, 0)))
}
