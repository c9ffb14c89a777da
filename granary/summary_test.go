package granary_test

import (
	"math"
	"slices"
	"testing"

	"granary/api"
	"granary/granary"
)

func entry(value, low, high, weight int) api.Entry {
	return api.Entry{Value: value, Low: low, High: high, Weight: weight}
}

func TestSummary(t *testing.T) {
	for _, c := range []struct {
		what            string
		values, weights []int
		want            []api.Entry
	}{
		{"the document's example", []int{5, 3, 5}, []int{1, 2, 4}, []api.Entry{entry(3, 0, 2, 2), entry(5, 2, 7, 5)}},
		{"nothing", nil, nil, nil},
		{"no values", []int{}, []int{1, 2}, nil},
		{"no weights", []int{1, 2}, nil, nil},
		{"more values than weights", []int{9, 8, 7, 6}, []int{3, 2}, []api.Entry{entry(8, 0, 2, 2), entry(9, 2, 5, 3)}},
		{"more weights than values", []int{9, 8}, []int{3, 2, 1, 1}, []api.Entry{entry(8, 0, 2, 2), entry(9, 2, 5, 3)}},
		{"one value often", []int{4, 4, 4}, []int{1, 10, 100}, []api.Entry{entry(4, 0, 111, 111)}},
		{"negative values", []int{0, -1, 1}, []int{1, 1, 1}, []api.Entry{entry(-1, 0, 1, 1), entry(0, 1, 2, 1), entry(1, 2, 3, 1)}},
		{"weights at the bounds", []int{1, 2}, []int{1, 1000}, []api.Entry{entry(1, 0, 1, 1), entry(2, 1, 1001, 1000)}},
		{"weights below 1", []int{1, 2, 3}, []int{0, -1, math.MinInt}, []api.Entry{entry(1, 0, 1, 1), entry(2, 1, 2, 1), entry(3, 2, 3, 1)}},
		{"weights above 1000", []int{1, 2}, []int{1001, math.MaxInt}, []api.Entry{entry(1, 0, 1, 1), entry(2, 1, 2, 1)}},
		{
			"values at the bounds",
			[]int{1000000000, 999999999, -1000000000, -999999999}, []int{1, 2, 3, 4},
			[]api.Entry{entry(-1000000000, 0, 3, 3), entry(-999999999, 3, 7, 4), entry(999999999, 7, 9, 2), entry(1000000000, 9, 10, 1)},
		},
		{
			"values beyond the bounds",
			[]int{1000000001, math.MinInt, 1000000000, math.MaxInt, -1000000001}, []int{1, 2, 3, 4, 5},
			[]api.Entry{entry(-1000000000, 0, 7, 7), entry(1000000000, 7, 15, 8)},
		},
	} {
		if got := granary.Summary(c.values, c.weights); !slices.Equal(got, c.want) {
			t.Errorf("P2: Summary of %s = %v, want %v", c.what, got, c.want)
		}
	}
}

func TestJoin(t *testing.T) {
	a := granary.Summary([]int{5, 3, 5}, []int{1, 2, 4})
	cut := granary.Cut(granary.Summary([]int{1, 2, 3, 4}, []int{1, 2, 3, 4}), 2)
	for _, c := range []struct {
		what       string
		a, b, want []api.Entry
	}{
		{"nothing and nothing", nil, []api.Entry{}, nil},
		{"nothing and something", nil, a, a},
		{"the document's example", a, []api.Entry{entry(4, 0, 1, 1)}, []api.Entry{entry(3, 0, 2, 2), entry(4, 2, 3, 1), entry(5, 3, 8, 5)}},
		{"values that both have", a, a, []api.Entry{entry(3, 0, 4, 4), entry(5, 4, 14, 10)}},
		{"all of one below the other", a, granary.Summary([]int{7, 8}, []int{1, 1}), []api.Entry{entry(3, 0, 2, 2), entry(5, 2, 7, 5), entry(7, 7, 8, 1), entry(8, 8, 9, 1)}},
		{"a value that both have, and one of each", a, granary.Summary([]int{5, 9}, []int{10, 20}), []api.Entry{entry(3, 0, 2, 2), entry(5, 2, 17, 15), entry(9, 17, 37, 20)}},
		{"values between those of a cut one", cut, granary.Summary([]int{2, 3}, []int{10, 20}), []api.Entry{entry(1, 0, 1, 1), entry(2, 1, 16, 10), entry(3, 11, 36, 20), entry(4, 36, 40, 4)}},
	} {
		if got := granary.Join(c.a, c.b); !slices.Equal(got, c.want) {
			t.Errorf("P2: Join of %s = %v, want %v", c.what, got, c.want)
		}
		if got := granary.Join(c.b, c.a); !slices.Equal(got, c.want) {
			t.Errorf("P2: Join of %s, the other way round = %v, want %v", c.what, got, c.want)
		}
	}
}

func TestCut(t *testing.T) {
	for _, c := range []struct {
		what    string
		weights []int
		size    int
		want    []int
	}{
		{"no entries", nil, 2, nil},
		{"no entries, a size below 2", nil, -1, nil},
		{"one entry", []int{7}, 2, []int{0}},
		{"one entry, a size below 2", []int{7}, 0, []int{0}},
		{"two entries, a size below 2", []int{7, 1}, 1, []int{0, 1}},
		{"the document's example", []int{1, 1, 1}, 2, []int{0, 2}},
		{"the least size", []int{1, 1, 1}, math.MinInt, []int{0, 2}},
		{"size 1", []int{1, 1, 1}, 1, []int{0, 2}},
		{"size 0", []int{1, 1, 1}, 0, []int{0, 2}},
		{"as many as the size", []int{1, 1, 1}, 3, []int{0, 1, 2}},
		{"fewer than the size", []int{1, 1, 1}, 4, []int{0, 1, 2}},
		{"the greatest size", []int{1, 1, 1}, math.MaxInt, []int{0, 1, 2}},
		// Low and High together: 1 3 5 7; the total is 4, the share at 4.
		{"two entries equally near", []int{1, 1, 1, 1}, 3, []int{0, 1, 3}},
		// 2 5 7 10; the total 6, the share at 6.
		{"two entries equally near, of other weights", []int{2, 1, 1, 2}, 3, []int{0, 1, 3}},
		// 1 3 104 205 207; the total 104, the shares at 69.3 and 138.7.
		{"an entry that was taken", []int{1, 1, 100, 1, 1}, 4, []int{0, 2, 4}},
		// 10 21 23 25 36; the total 23, the shares at 46/3 and 92/3.
		{"the first and last are not among those between", []int{10, 1, 1, 1, 10}, 4, []int{0, 1, 3, 4}},
		// 100 201 203 205; the total 103, the share at 103.
		{"the first one is nearest", []int{100, 1, 1, 1}, 3, []int{0, 1, 3}},
		// 1 3 5 106; the total 103, the share at 103.
		{"the last one is nearest", []int{1, 1, 1, 100}, 3, []int{0, 2, 3}},
		// 4 9 12 18 23 28; the total 16, the shares at 32/3 and 64/3: to 10, 9 were nearer.
		{"shares that are fractions", []int{4, 1, 2, 4, 1, 4}, 4, []int{0, 2, 4, 5}},
	} {
		var values []int
		for i := range c.weights {
			values = append(values, i)
		}
		list := granary.Summary(values, c.weights)
		var want []api.Entry
		for _, place := range c.want {
			want = append(want, list[place])
		}
		if got := granary.Cut(list, c.size); !slices.Equal(got, want) {
			t.Errorf("P2: Cut of %s = %v, want %v", c.what, got, want)
		}
	}
}
