package kind

import (
	"slices"
	"testing"

	"docket/api"
)

func reaches(t *testing.T, cells []api.Cell, start int, want ...int) {
	t.Helper()
	var got []int
	for cell, reached := range Reached(cells, start) {
		if reached {
			got = append(got, cell)
		}
	}
	if !slices.Equal(got, want) {
		t.Errorf("from %d one comes to %v, want %v", start, got, want)
	}
}

// What a cell needs may stand ahead of it or behind it; what its row does not name counts for nothing.
func TestReached(t *testing.T) {
	cells := []api.Cell{
		{Kind: api.Const, A: 1, B: 2, C: 3},
		{Kind: api.Past, A: 4, B: 3, C: 3},
		{Kind: api.Add, A: 1, B: 0, C: 3},
		{Kind: api.If, A: 0, B: 5, C: 2},
		{Kind: api.Input, A: 3},
		{Kind: api.Due, A: 0},
	}
	reaches(t, cells, 0)
	reaches(t, cells, 1, 4)
	reaches(t, cells, 2, 0, 1, 4)
	reaches(t, cells, 3, 0, 1, 2, 4, 5)
	reaches(t, cells, 5, 0)
}

func TestReachedInARing(t *testing.T) {
	cells := []api.Cell{
		{Kind: api.Add, A: 1, B: 1}, {Kind: api.Add, A: 2, B: 2}, {Kind: api.Add, A: 1, B: 1}, {Kind: api.Past, A: 3},
	}
	reaches(t, cells, 0, 1, 2)
	reaches(t, cells, 1, 1, 2)
	reaches(t, cells, 2, 1, 2)
	reaches(t, cells, 3, 3)
}

// The way to the last cell has as many steps as it can, whichever way round the cells stand.
func TestReachedALongWay(t *testing.T) {
	up, down := make([]api.Cell, 20), make([]api.Cell, 20)
	var all []int
	for i := range 20 {
		up[i] = api.Cell{Kind: api.Past, A: (i + 1) % 20}
		down[i] = api.Cell{Kind: api.Past, A: (i + 19) % 20}
		all = append(all, i)
	}
	reaches(t, up, 0, all...)
	reaches(t, down, 0, all...)
	reaches(t, up, 7, all...)
	reaches(t, down, 7, all...)
}

func TestReachedOfWrongNumbers(t *testing.T) {
	cells := []api.Cell{{Kind: api.If, A: -1, B: 2, C: greatest}, {Kind: api.Add, A: least, B: 0}}
	reaches(t, cells, 0)
	reaches(t, cells, 1, 0)
	reaches(t, cells, -1)
	reaches(t, cells, 2)
	reaches(t, nil, 0)
}
