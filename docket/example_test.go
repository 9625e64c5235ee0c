package docket_test

import (
	"fmt"

	"docket/api"
	"docket/docket"
)

// The example of README.md.
func Example() {
	f := api.Form{
		Week:     31,
		Holidays: []int{7, 8},
		Cells: []api.Cell{
			{Kind: api.Input, K: 345600},
			{Kind: api.Due, A: 0, K: 1},
			{Kind: api.Past, A: 1},
		},
	}
	c, wrong, place := docket.New(f)
	fmt.Println(wrong, place)
	due, wrong := c.Value(1)
	past, _ := c.Value(2)
	fmt.Println(due, wrong, past)
	wrong = c.Advance(777599)
	past, _ = c.Value(2)
	fmt.Println(wrong, past)
	wrong = c.Advance(777600)
	past, _ = c.Value(2)
	fmt.Println(wrong, past)
	wrong = c.Advance(777599)
	fmt.Println(wrong, c.Now())
	wrong = c.Set(0, 777600)
	due, _ = c.Value(1)
	past, _ = c.Value(2)
	fmt.Println(wrong, due, past)
	// Output:
	// 0 0
	// 777600 0 0
	// 0 0
	// 0 1
	// 9 777600
	// 0 864000 0
}
