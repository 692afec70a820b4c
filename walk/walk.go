package walk

import (
	"slices"

	"curtain/api"
	"curtain/cell"
	"curtain/plan"
	"curtain/query"
	"curtain/work"
)

// row is a row of the answer: its cells, and the numbers of the rows of which it is made, in the order that the query has of the items.
type row struct {
	numbers []int
	cells   []api.Cell
}

// walker goes through a query by its plan.
type walker struct {
	query   query.Query
	worker  *work.Worker
	steps   []api.Step
	seen    [][]int    // of each item, the numbers of the rows that the user sees
	numbers []int      // of each item, the number of the row that is there
	columns []api.Cell // the cells of the rows that are there, each at the place that an expression has of it
}

func newWalker(q query.Query, worker *work.Worker) *walker {
	w := &walker{query: q, worker: worker, steps: plan.Steps(q)}
	for _, table := range q.Tables {
		w.seen = append(w.seen, table.SeenBy(worker.User))
	}
	w.numbers = make([]int, len(q.Tables))
	w.columns = make([]api.Cell, q.Place(len(q.Tables)))
	return w
}

// walk sends each row of the answer, up to a fault, which it sends too, and closes both channels.
func (w *walker) walk(rows chan<- row, faults chan<- api.Errno) {
	defer close(rows)
	defer close(faults)
	if fault := w.from(0, rows); fault != api.OK {
		faults <- fault
	}
}

// from goes on with a step, where the items of those ahead of it have a row.
func (w *walker) from(step int, rows chan<- row) api.Errno {
	if step == len(w.steps) {
		return w.send(rows)
	}
	item, parts := w.steps[step].Item, w.steps[step].Parts
	for _, number := range w.seen[item] {
		w.put(item, number)
		holds, fault := w.holds(parts)
		if holds {
			fault = w.from(step+1, rows)
		}
		if fault != api.OK {
			return fault
		}
	}
	return api.OK
}

// put makes a row of an item the one that is there.
func (w *walker) put(item, number int) {
	w.numbers[item] = number
	copy(w.columns[w.query.Place(item):], w.query.Tables[item].Given.Rows[number])
}

// holds asks parts, up to the first that is not true.
func (w *walker) holds(parts []int) (bool, api.Errno) {
	for _, part := range parts {
		c, fault := w.worker.Value(w.query.Parts[part].Expr, w.columns)
		if fault != api.OK || c != cell.Truth(true) {
			return false, fault
		}
	}
	return true, api.OK
}

// send works out the Outs, where all items have a row.
func (w *walker) send(rows chan<- row) api.Errno {
	cells, fault := w.worker.Values(w.query.Outs, w.columns)
	if fault != api.OK {
		return fault
	}
	// The walker goes on writing into its numbers.
	rows <- row{slices.Clone(w.numbers), cells}
	return api.OK
}
