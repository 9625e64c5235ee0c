package kind

import (
	"testing"

	"docket/api"
)

const (
	least    = -1 << 63
	greatest = 1<<63 - 1
)

func TestKnownKindsAndNeeds(t *testing.T) {
	want := []int{0, 0, 2, 2, 2, 2, 2, 2, 2, 3, 1, 1, 1}
	for kind, needs := range want {
		if !Known(kind) {
			t.Errorf("Known(%d) is false", kind)
		}
		if n := Needs(kind); n != needs {
			t.Errorf("Needs(%d) = %d, want %d", kind, n, needs)
		}
	}
	for _, kind := range []int{-1, 13, least, greatest} {
		if Known(kind) || Needs(kind) != 0 {
			t.Errorf("the kind %d: Known %v, Needs %d", kind, Known(kind), Needs(kind))
		}
	}
}

func TestNeedReadsThePlaces(t *testing.T) {
	c := api.Cell{A: 7, B: 8, C: 9}
	for place, want := range []int{7, 8, 9} {
		if n := Need(c, place); n != want {
			t.Errorf("Need(%d) = %d, want %d", place, n, want)
		}
	}
}

func TestHasK(t *testing.T) {
	want := []bool{true, true, false, false, false, false, false, false, false, false, false, true, true}
	for kind, has := range want {
		if HasK(kind) != has {
			t.Errorf("HasK(%d) is %v", kind, !has)
		}
	}
	for _, kind := range []int{-1, 13, least, greatest} {
		if HasK(kind) {
			t.Errorf("HasK(%d) is true", kind)
		}
	}
}

func TestAllowsK(t *testing.T) {
	for _, c := range []struct {
		kind, low, high int
	}{
		{api.Input, -2000000000, 2000000000},
		{api.Const, -2000000000, 2000000000},
		{api.Age, 1000000, 1000000000},
		{api.Due, 0, 250},
	} {
		for _, k := range []int{c.low, c.high} {
			if !AllowsK(c.kind, k) {
				t.Errorf("the kind %d refuses K %d", c.kind, k)
			}
		}
		for _, k := range []int{c.low - 1, c.high + 1, least, greatest} {
			if AllowsK(c.kind, k) {
				t.Errorf("the kind %d allows K %d", c.kind, k)
			}
		}
	}
}

func TestSilentRowsAllowEveryK(t *testing.T) {
	for _, kind := range []int{api.Add, api.Sub, api.Mul, api.Min, api.Max, api.Less, api.Same, api.If, api.Past} {
		for _, k := range []int{least, -1, 0, greatest} {
			if !AllowsK(kind, k) {
				t.Errorf("the kind %d refuses K %d", kind, k)
			}
		}
	}
}

func TestIsValue(t *testing.T) {
	for _, n := range []int{-2000000000, -1, 0, 2000000000} {
		if !IsValue(n) {
			t.Errorf("%d is a value", n)
		}
	}
	for _, n := range []int{-2000000001, 2000000001, least, greatest} {
		if IsValue(n) {
			t.Errorf("%d is no value", n)
		}
	}
}
