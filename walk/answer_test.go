package walk

import (
	"math/rand"
	"slices"
	"testing"

	"curtain/api"
	"curtain/cell"
)

func made(cells []api.Cell, numbers ...int) row { return row{numbers, cells} }

func list(cells ...api.Cell) []api.Cell { return cells }

func TestArrange(t *testing.T) {
	want := []row{
		made(list(cell.Number(9), api.Cell{}), 0, 9), made(list(cell.Number(9), cell.Text("a")), 3, 0),
		made(list(cell.Number(0), api.Cell{}), 0, 0), made(list(cell.Number(0), api.Cell{}), 0, 1), made(list(cell.Number(0), api.Cell{}), 1, 0), made(list(cell.Number(0), cell.Text("")), 0, 3),
		made(list(api.Cell{}, cell.Text("a")), 0, 5), made(list(api.Cell{}, cell.Text("b")), 0, 4),
	}
	keys := []api.Key{{Out: 0, Down: true}, {Out: 1}}
	random := rand.New(rand.NewSource(1))
	for range 100 {
		rows := slices.Clone(want)
		random.Shuffle(len(rows), func(i, j int) { rows[i], rows[j] = rows[j], rows[i] })
		arrange(rows, keys)
		for i, r := range rows {
			if !slices.Equal(r.numbers, want[i].numbers) || !slices.Equal(r.cells, want[i].cells) {
				t.Fatalf("row %d is %+v, want %+v", i, r, want[i])
			}
		}
	}
}

func TestTold(t *testing.T) {
	rows := []row{numbered(4), numbered(3), numbered(5)}
	for limit, want := range map[int]int{-1: 3, 0: 0, 1: 1, 2: 2, 3: 3, 4: 3, 1 << 62: 3} {
		got := told(rows, limit)
		if len(got) != want {
			t.Errorf("%d rows are told of 3 with the limit %d", len(got), limit)
		}
		for i, cells := range got {
			if !slices.Equal(cells, rows[i].cells) || &cells[0] == &rows[i].cells[0] {
				t.Errorf("row %d with the limit %d is %+v", i, limit, cells)
			}
		}
	}
}
