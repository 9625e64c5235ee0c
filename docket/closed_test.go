package docket

import (
	"testing"

	"docket/api"
)

// That a case is closed stands ahead of every other error of Set.
func TestSetOfAClosedCase(t *testing.T) {
	c, _, _ := New(api.Form{Week: 1, Cells: []api.Cell{{Kind: api.Input, K: 7}, {Kind: api.Const}}})
	c.closed = true
	for _, x := range []struct{ cell, value int }{{0, 5}, {9, 5}, {1, 5}, {0, api.Limit + 1}} {
		if wrong := c.Set(x.cell, x.value); wrong != api.ErrClosed {
			t.Errorf("P5: Set(%d, %d) of a closed case = %d", x.cell, x.value, wrong)
		}
	}
	if v, wrong := c.Value(0); v != 7 || wrong != api.OK {
		t.Errorf("P4: Value of a closed case = %d and %d", v, wrong)
	}
}
