package walk

import (
	"slices"
	"strconv"
	"strings"
	"testing"
	"testing/synctest"

	"curtain/api"
	"curtain/cell"
	"curtain/query"
	"curtain/work"
)

func numbered(n int) row { return row{numbers: []int{n}, cells: []api.Cell{cell.Number(n)}} }

func firstNumbers(rows []row) []int {
	var list []int
	for _, r := range rows {
		list = append(list, r.numbers[0])
	}
	return list
}

// play sends a row for a number, a fault for the word fault, and closes a channel that is named.
func play(script string, rows chan<- row, faults chan<- api.Errno) {
	for _, word := range strings.Fields(script) {
		switch word {
		case "rows":
			close(rows)
		case "faults":
			close(faults)
		case "fault":
			faults <- api.Long
		default:
			n, _ := strconv.Atoi(word)
			rows <- numbered(n)
		}
	}
}

func TestGatherTakesAllUpToTheClosing(t *testing.T) {
	for script, want := range map[string]struct {
		rows  []int
		fault api.Errno
	}{
		"rows faults": {}, "faults rows": {}, "3 1 2 rows faults": {[]int{3, 1, 2}, api.OK}, "3 faults 1 2 rows": {[]int{3, 1, 2}, api.OK},
		"fault faults rows": {nil, api.Long}, "rows fault faults": {nil, api.Long}, "5 4 fault faults rows": {[]int{5, 4}, api.Long}, "5 4 rows fault faults": {[]int{5, 4}, api.Long},
	} {
		// In a bubble, a sender that is left waiting is a failure.
		synctest.Test(t, func(t *testing.T) {
			rows, faults := make(chan row), make(chan api.Errno)
			go play(script, rows, faults)
			got, fault := gather(rows, faults)
			if !slices.Equal(firstNumbers(got), want.rows) || fault != want.fault {
				t.Errorf("of %s gathered %v, %d, want %v", script, firstNumbers(got), fault, want)
			}
		})
	}
}

// someQuery is of a table with the numbers 2, 1, 0.
func someQuery(t *testing.T, out string) query.Query {
	x := api.Table{
		Name: "a", Cols: []api.Column{{Name: "k", Type: "n", Distinct: 1}}, Policy: "true", Users: []string{"me"},
		Rows: [][]api.Cell{{cell.Number(2)}, {cell.Number(1)}, {cell.Number(0)}},
	}
	q, bad := query.Read(api.Base{Tables: []api.Table{x}}, "me", api.Query{From: []api.Item{{Table: "a", As: "a"}}, Outs: []string{out}, Limit: -1})
	if bad != api.OK {
		t.Fatalf("the query is wrong: %d", bad)
	}
	return q
}

func TestWalkSendsAndCloses(t *testing.T) {
	for out, want := range map[string]struct {
		rows   []int
		faults []api.Errno
	}{
		"(note a.k)": {[]int{0, 1, 2}, nil}, "(/ 1 (note a.k))": {[]int{0, 1}, []api.Errno{api.Zero}}, "(* 1000000000 (note a.k))": {nil, []api.Errno{api.Over}},
	} {
		rows, faults := make(chan row, 10), make(chan api.Errno, 10)
		newWalker(someQuery(t, out), &work.Worker{User: "me"}).walk(rows, faults)
		// Channels that are not closed would hold these loops up.
		var list []row
		for r := range rows {
			list = append(list, r)
		}
		var told []api.Errno
		for fault := range faults {
			told = append(told, fault)
		}
		if !slices.Equal(firstNumbers(list), want.rows) || !slices.Equal(told, want.faults) {
			t.Errorf("walk of %s sends %v, %v, want %v", out, firstNumbers(list), told, want)
		}
	}
}

// TestCollectWaits: when it answers, the walker's goroutine writes no more.
func TestCollectWaits(t *testing.T) {
	for range 200 {
		worker := &work.Worker{User: "me"}
		rows, fault := collect(newWalker(someQuery(t, "(note a.k)"), worker))
		if !slices.Equal(firstNumbers(rows), []int{0, 1, 2}) || fault != api.OK || !slices.Equal(worker.Notes, []string{"2", "1", "0"}) {
			t.Fatalf("collected %v, %d, %q", firstNumbers(rows), fault, worker.Notes)
		}
	}
}
