package granary_test

import (
	"math"
	"slices"
	"testing"

	"granary/api"
	"granary/granary"
)

func goodConfig() api.Config {
	return api.Config{
		Features: []api.Feature{{Scale: 1}, {Word: true, Cut: 5}},
		Bins:     4, Size: 8, Budget: 2,
	}
}

// wantCheck holds Check against the wanted answer for each value that set puts
// into a good configuration.
func wantCheck(t *testing.T, what string, want api.Errno, set func(c *api.Config, n int), values ...int) {
	t.Helper()
	for _, n := range values {
		c := goodConfig()
		set(&c, n)
		if got := granary.Check(c); got != want {
			t.Errorf("P2: Check with %s %d = %d, want %d", what, n, got, want)
		}
	}
}

func TestCheckBounds(t *testing.T) {
	for _, c := range []struct {
		what      string
		set       func(c *api.Config, n int)
		low, high int
	}{
		{"Bins (Size 32)", func(c *api.Config, n int) { c.Bins, c.Size = n, 32 }, 2, 16},
		{"Size (Bins 4)", func(c *api.Config, n int) { c.Size = n }, 4, 32},
		{"Size (Bins 16)", func(c *api.Config, n int) { c.Bins, c.Size = 16, n }, 16, 32},
		{"Budget", func(c *api.Config, n int) { c.Budget = n }, 0, 20},
		{"Scale of numbers", func(c *api.Config, n int) { c.Features[0].Scale = n }, 0, 3},
		{"Cut of numbers", func(c *api.Config, n int) { c.Features[0].Cut = n }, 0, 0},
		{"Scale of words", func(c *api.Config, n int) { c.Features[1].Scale = n }, 0, 0},
		{"Cut of words", func(c *api.Config, n int) { c.Features[1].Cut = n }, 1, 1000},
	} {
		wantCheck(t, c.what, api.OK, c.set, c.low, (c.low+c.high)/2, c.high)
		wantCheck(t, c.what, api.ErrArg, c.set, math.MinInt, c.low-2, c.low-1, c.high+1, c.high+2, math.MaxInt)
	}
}

func TestCheckSizeBelowBins(t *testing.T) {
	for bins := 2; bins <= 16; bins++ {
		c := goodConfig()
		c.Bins, c.Size = bins, bins
		if got := granary.Check(c); got != api.OK {
			t.Errorf("P2: Check with Bins and Size %d = %d", bins, got)
		}
		c.Size--
		if got := granary.Check(c); got != api.ErrArg {
			t.Errorf("P2: Check with Bins %d and Size %d = %d, want ErrArg", bins, c.Size, got)
		}
	}
}

func TestCheckHowManyFeatures(t *testing.T) {
	set := func(c *api.Config, n int) { c.Features = make([]api.Feature, n) }
	wantCheck(t, "features", api.OK, set, 1, 2, 3, 4)
	wantCheck(t, "features", api.ErrArg, set, 0, 5, 6, 100000)
	if got := granary.Check(api.Config{}); got != api.ErrArg {
		t.Errorf("P2: Check of the empty configuration = %d, want ErrArg", got)
	}
	c := goodConfig()
	c.Features = nil
	if got := granary.Check(c); got != api.ErrArg {
		t.Errorf("P2: Check without features = %d, want ErrArg", got)
	}
}

func TestCheckLooksAtEachFeature(t *testing.T) {
	for _, bad := range []api.Feature{{Scale: 4}, {Cut: 1}, {Word: true}, {Word: true, Scale: 1, Cut: 1}} {
		for place := range api.MaxFeatures {
			c := goodConfig()
			c.Features = make([]api.Feature, api.MaxFeatures)
			c.Features[place] = bad
			if got := granary.Check(c); got != api.ErrArg {
				t.Errorf("P2: Check with %+v at %d = %d, want ErrArg", bad, place, got)
			}
		}
	}
}

func TestCheckWritesNothing(t *testing.T) {
	spare := []api.Feature{{Scale: 1}, {Word: true, Cut: 5}, {Scale: 77}, {Cut: 77}}
	was := slices.Clone(spare)
	c := goodConfig()
	c.Features = spare[:2]
	if got := granary.Check(c); got != api.OK {
		t.Errorf("P2: Check = %d: what lies in the spare room is no feature", got)
	}
	if !slices.Equal(spare, was) {
		t.Errorf("P1: Check made %v of %v", spare, was)
	}
}
