package summary_test

import (
	"math/rand/v2"
	"slices"
	"testing"

	"granary/api"
	"granary/summary"
)

// known is what values weigh, by going through them all.
type known struct {
	values, weights []int
}

func (k known) weigh(counts func(value int) bool) int {
	sum := 0
	for i, v := range k.values {
		if counts(v) {
			sum += k.weights[i]
		}
	}
	return sum
}

// someValues come in any order, or rising, or falling.
func someValues(r *rand.Rand) known {
	k := known{}
	spread, heaviest := 1+r.IntN(300), 1+r.IntN(99)
	for range r.IntN(201) {
		k.values = append(k.values, r.IntN(spread)-spread/2)
		k.weights = append(k.weights, 1+r.IntN(heaviest))
	}
	switch r.IntN(4) {
	case 0:
		slices.Sort(k.values)
	case 1:
		slices.Sort(k.values)
		slices.Reverse(k.values)
	}
	return k
}

func (k known) wantTrue(t *testing.T, list []api.Entry, size int) {
	t.Helper()
	if len(list) > size {
		t.Fatalf("P9: with the size %d there are %d entries", size, len(list))
	}
	if len(k.values) == 0 {
		if len(list) != 0 {
			t.Fatalf("P9: the summary of nothing is %v", list)
		}
		return
	}
	for i, e := range list {
		if i > 0 && e.Value <= list[i-1].Value {
			t.Fatalf("P9: values do not rise: %v", list)
		}
		if less := k.weigh(func(v int) bool { return v < e.Value }); e.Low > less {
			t.Fatalf("P9: %v: lesser values weigh %d", e, less)
		}
		if upTo := k.weigh(func(v int) bool { return v <= e.Value }); e.High < upTo {
			t.Fatalf("P9: %v: values that are not greater weigh %d", e, upTo)
		}
		if itself := k.weigh(func(v int) bool { return v == e.Value }); e.Weight < 1 || e.Weight > itself {
			t.Fatalf("P9: %v: the value weighs %d", e, itself)
		}
	}
	first, last := list[0], list[len(list)-1]
	if first.Value != slices.Min(k.values) || last.Value != slices.Max(k.values) {
		t.Fatalf("P9: from %d to %d, want %d to %d", first.Value, last.Value, slices.Min(k.values), slices.Max(k.values))
	}
	if all := k.weigh(func(int) bool { return true }); last.High != all {
		t.Fatalf("P9: the total is %d, want %d", last.High, all)
	}
}

func TestSummariesAreTrue(t *testing.T) {
	r := rand.New(rand.NewPCG(7, 8))
	for range 4000 {
		k := someValues(r)
		size := 2 + r.IntN(31)
		k.wantTrue(t, summary.InBlocks(k.values, k.weights, size), size)
	}
}

// TestFewDifferentValues: then nothing is cut away, in however many blocks.
func TestFewDifferentValues(t *testing.T) {
	r := rand.New(rand.NewPCG(9, 10))
	for range 500 {
		size := 2 + r.IntN(31)
		k := known{}
		for range r.IntN(201) {
			k.values, k.weights = append(k.values, r.IntN(size)), append(k.weights, 1+r.IntN(99))
		}
		got, want := summary.InBlocks(k.values, k.weights, size), summary.Of(k.values, k.weights)
		if !slices.Equal(got, want) {
			t.Fatalf("P9: the summary of %v, %v with the size %d is %v, want %v", k.values, k.weights, size, got, want)
		}
	}
}

// TestBlocks goes by hand through five blocks, and one that is not full.
func TestBlocks(t *testing.T) {
	values := []int{1, 9, 2, 8, 3, 7, 4, 6, 5, 0, 10}
	weights := []int{1, 1, 1, 1, 1, 1, 1, 1, 1, 1, 7}
	block := func(from, to int) []api.Entry { return summary.Of(values[from:to], weights[from:to]) }
	both := func(a, b []api.Entry) []api.Entry { return summary.Cut(summary.Join(a, b), 2) }
	second := both(both(block(0, 2), block(2, 4)), both(block(4, 6), block(6, 8)))
	first := both(block(8, 10), block(10, 11))
	want := both(both(nil, first), second)
	if got := summary.InBlocks(values, weights, 2); !slices.Equal(got, want) {
		t.Errorf("P9: the summary in blocks of 2 is %v, want %v", got, want)
	}
	if last := want[len(want)-1]; last.Value != 10 || last.High != 17 {
		t.Errorf("P9: the last entry is %v, want 10 with the total 17", last)
	}
}
