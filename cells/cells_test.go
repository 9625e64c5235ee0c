package cells

import (
	"slices"
	"testing"

	"docket/api"
)

func constant(k int) api.Cell { return api.Cell{Kind: api.Const, K: k} }

func two(kind, a, b int) api.Cell { return api.Cell{Kind: kind, A: a, B: b} }

func expect(t *testing.T, f api.Form, now int, want ...int) {
	t.Helper()
	if got := Values(f, now); !slices.Equal(got, want) {
		t.Errorf("P4: at %d: %v, want %v", now, got, want)
	}
}

func form(cells ...api.Cell) api.Form { return api.Form{Week: 31, Cells: cells} }

func TestKindsOfTwo(t *testing.T) {
	for _, c := range []struct{ kind, a, b, want int }{
		{api.Add, 7, -3, 4},
		{api.Add, 2000000000, 1, 2000000000},
		{api.Add, 1999999999, 1, 2000000000},
		{api.Add, -2000000000, -2000000000, -2000000000},
		{api.Sub, 7, -3, 10},
		{api.Sub, -3, 7, -10},
		{api.Sub, 2000000000, -2000000000, 2000000000},
		{api.Sub, -2000000000, 1, -2000000000},
		{api.Mul, 7, -3, -21},
		{api.Mul, 0, -2000000000, 0},
		{api.Mul, 2000000000, 2000000000, 2000000000},
		{api.Mul, -2000000000, -2000000000, 2000000000},
		{api.Mul, 2000000000, -2000000000, -2000000000},
		{api.Mul, 2000000000, -1, -2000000000},
		{api.Mul, 1000000000, 2, 2000000000},
		{api.Mul, 65536, 65536, 2000000000},
		{api.Min, 7, -3, -3},
		{api.Min, -3, 7, -3},
		{api.Max, 7, -3, 7},
		{api.Max, -3, 7, 7},
		{api.Less, -3, 7, 1},
		{api.Less, 7, 7, 0},
		{api.Less, 7, -3, 0},
		{api.Same, 7, 7, 1},
		{api.Same, 7, -7, 0},
	} {
		want := []int{c.a, c.b, c.want}
		expect(t, form(constant(c.a), constant(c.b), two(c.kind, 0, 1)), 0, want...)
	}
}

func TestIf(t *testing.T) {
	for _, c := range []struct{ a, want int }{{1, 8}, {-1, 8}, {2000000000, 8}, {0, 9}} {
		choice := api.Cell{Kind: api.If, A: 0, B: 1, C: 2}
		expect(t, form(constant(c.a), constant(8), constant(9), choice), 0, c.a, 8, 9, c.want)
	}
}

func TestInputAndConst(t *testing.T) {
	expect(t, form(api.Cell{Kind: api.Input, K: -5, A: 99}, constant(6)), 77, -5, 6)
}

func TestPast(t *testing.T) {
	f := form(constant(500), two(api.Past, 0, 0), constant(-500), two(api.Past, 2, 0))
	expect(t, f, 0, 500, 0, -500, 1)
	expect(t, f, 499, 500, 0, -500, 1)
	expect(t, f, 500, 500, 1, -500, 1)
	expect(t, f, 501, 500, 1, -500, 1)
}

func TestAge(t *testing.T) {
	age := api.Cell{Kind: api.Age, A: 0, K: 1000000}
	for _, c := range []struct{ from, now, want int }{
		{250, 0, 0}, {250, 249, 0}, {250, 250, 0}, {250, 1000249, 0}, {250, 1000250, 1}, {250, 2000249, 1}, {250, 2000250, 2},
		{2000000000, 0, 0}, {2000000000, 1000000000, 0},
		{0, 0, 0}, {-1, 0, 0}, {-999999, 0, 0}, {-1000000, 0, 1}, {-2999999, 0, 2},
		{-2000000000, 0, 2000}, {-2000000000, 1000000000, 3000},
	} {
		expect(t, form(constant(c.from), age), c.now, c.from, c.want)
	}
}

func TestDue(t *testing.T) {
	for _, c := range []struct{ from, k, want int }{
		{0, 0, 0}, {86399, 0, 0}, {86400, 0, 86400},
		{0, 1, 86400}, {345600, 1, 777600}, {431999, 1, 777600},
		{-1, 0, -86400}, {-1, 1, 0},
		{2000000000, 0, 23148 * 86400}, {2000000000, 1, 2000000000},
		{-2000000000, 0, -2000000000}, {-2000000000, 1, -23148 * 86400},
	} {
		f := form(constant(c.from), api.Cell{Kind: api.Due, A: 0, K: c.k})
		f.Holidays = []int{7, 8}
		expect(t, f, 0, c.from, c.want)
	}
}

func TestTheClockDoesNotMoveDue(t *testing.T) {
	f := form(constant(0), api.Cell{Kind: api.Due, A: 0, K: 1})
	expect(t, f, 1000000000, 0, 86400)
}

// Cells may need cells behind them, and all 20 may stand in one row, each needed three times.
func TestAnyOrder(t *testing.T) {
	up := make([]api.Cell, 20)
	down := make([]api.Cell, 20)
	for i := range up {
		up[i] = api.Cell{Kind: api.If, A: i + 1, B: i + 1, C: i + 1}
		down[i] = api.Cell{Kind: api.If, A: i - 1, B: i - 1, C: i - 1}
	}
	up[19] = constant(4)
	down[0] = constant(4)
	want := slices.Repeat([]int{4}, 20)
	expect(t, form(up...), 0, want...)
	expect(t, form(down...), 0, want...)
	for i := range 19 {
		up[i] = two(api.Add, i+1, i+1)
	}
	for i := range 20 {
		want[19-i] = 4 << i
	}
	expect(t, form(up...), 0, want...)
}

func TestValuesAreFreshAndTheFormIsLeft(t *testing.T) {
	f := form(constant(3), two(api.Add, 0, 0))
	first := Values(f, 0)
	first[0] = 99
	expect(t, f, 0, 3, 6)
	if f.Cells[0] != constant(3) || f.Cells[1] != two(api.Add, 0, 0) {
		t.Error("P2: Values wrote into the form")
	}
}

func TestNumbersThatNoRowNames(t *testing.T) {
	far := api.Cell{Kind: api.Past, A: 0, B: 1 << 62, C: -1 << 63, K: -1 << 63}
	expect(t, form(constant(0), far), 0, 0, 1)
	edge := api.Cell{Kind: api.Const, A: 1, B: 1, C: 1, K: 5}
	expect(t, form(edge), 0, 5)
}

// Who hands in a form with errors gets numbers, no panic.
func TestFormsWithErrorsDoNotPanic(t *testing.T) {
	expect(t, form(two(api.Add, 0, 0), two(api.Past, 4, 0), api.Cell{Kind: 13}, api.Cell{Kind: -1}), 0, 0, 0, 0, 0)
	expect(t, form(constant(0), api.Cell{Kind: api.Age}, api.Cell{Kind: api.Due, K: -1}), 5, 0, 0, 0)
	expect(t, api.Form{}, 0)
}
