package docket_test

import (
	"fmt"

	"docket/api"
	"docket/docket"
)

// The example of README.md.
func Example() {
	f := api.Form{
		Week:     31,
		Holidays: []int{7, 8},
		Cells: []api.Cell{
			{Kind: api.Input, K: 345600},
			{Kind: api.Due, A: 0, K: 1},
			{Kind: api.Past, A: 1},
		},
		Rules: []api.Rule{
			{Guard: 2, Steps: []int{3600, 7200}},
		},
	}
	c, wrong, place := docket.New(f)
	fmt.Println(wrong, place)
	due, wrong := c.Value(1)
	past, _ := c.Value(2)
	next, comes := c.Next()
	fmt.Println(due, wrong, past, next, comes)
	wrong = c.Advance(777599)
	past, _ = c.Value(2)
	fmt.Println(wrong, past)
	wrong = c.Advance(784799)
	past, _ = c.Value(2)
	fmt.Println(wrong, past, c.Log(0))
	wrong = c.Advance(777600)
	fmt.Println(wrong, c.Now())
	at, comes, wrong := c.When(2)
	fmt.Println(at, comes, wrong)
	d := c.Fork()
	wrong = d.Advance(784800)
	fmt.Println(wrong, d.Log(2), c.Log(2))
	wrong = c.Ack(0)
	state, _ := c.Rule(0)
	fmt.Println(wrong, state)
	wrong = c.Set(0, 777600)
	due, _ = c.Value(1)
	past, _ = c.Value(2)
	state, _ = c.Rule(0)
	fmt.Println(wrong, due, past, state)
	at, comes, wrong = c.When(2)
	fmt.Println(at, comes, wrong)
	wrong = c.Close()
	fmt.Println(wrong)
	wrong = c.Advance(864000)
	past, _ = c.Value(2)
	fmt.Println(wrong, past, c.Log(2))
	wrong = c.Set(0, 0)
	fmt.Println(wrong)
	s, wrong := docket.Print(f)
	fmt.Printf("%q %d\n", s, wrong)
	g, wrong, place := docket.Parse(s)
	fmt.Println(g, wrong, place)
	g, wrong, place = docket.Parse("w 31 7 8\nc 13")
	fmt.Println(g, wrong, place)
	// Output:
	// 0 0
	// 777600 0 0 777600 true
	// 0 0
	// 0 1 [{777600 0 0} {781200 0 1}]
	// 9 784799
	// 0 false 0
	// 0 [{784800 0 2}] []
	// 0 {true 777600 1 true}
	// 0 864000 0 {false 0 0 false}
	// 864000 true 0
	// 0
	// 0 1 []
	// 10
	// "w 31 7 8\nc 0 345600\nc 12 0 1\nc 10 1\nr 2 3600 7200\n" 0
	// {[{0 0 0 0 345600} {12 0 0 0 1} {10 1 0 0 0}] [{2 [3600 7200]}] 31 [7 8]} 0 0
	// {[] [] 0 []} 12 12
}
