package walk

import (
	"sync"

	"curtain/api"
)

// collect is all rows that a walker comes to, or the fault that ended it; the walker's goroutine has ended then.
func collect(w *walker) ([]row, api.Errno) {
	rows, faults := make(chan row), make(chan api.Errno)
	var ended sync.WaitGroup
	ended.Add(1)
	go func() {
		defer ended.Done()
		w.walk(rows, faults)
	}()
	list, fault := gather(rows, faults)
	ended.Wait()
	return list, fault
}

// gather takes rows and a fault until both channels are closed.
// Which of the two it is that is taken first does not show: with a fault, the rows are not told.
func gather(rows <-chan row, faults <-chan api.Errno) ([]row, api.Errno) {
	var list []row
	fault := api.OK
	for rows != nil || faults != nil {
		select {
		case r, open := <-rows:
			if open {
				list = append(list, r)
			} else {
				// A nil channel is never ready, so that the other one alone is waited for.
				rows = nil
			}
		case f, open := <-faults:
			if open {
				fault = f
			} else {
				faults = nil
			}
		}
	}
	return list, fault
}
