package docket

import (
	"testing"

	"docket/api"
)

// No call shows the rules yet, so that they are the case's own is asked of the copy itself.
func TestACopyHasItsOwnRules(t *testing.T) {
	f := api.Form{Week: 3, Cells: []api.Cell{{}}, Rules: []api.Rule{{Guard: 0, Steps: []int{5, 6}}, {Guard: 0}}}
	own := copyForm(f)
	f.Rules[0].Steps[0] = 99
	f.Rules[1].Guard = 99
	if len(own.Rules) != 2 || len(own.Rules[0].Steps) != 2 || own.Rules[0].Steps[0] != 5 || own.Rules[1].Guard != 0 {
		t.Errorf("P2: the copy's rules are %v", own.Rules)
	}
	if own.Week != 3 || len(own.Cells) != 1 || len(own.Holidays) != 0 {
		t.Errorf("P3: the copy is %v", own)
	}
}
