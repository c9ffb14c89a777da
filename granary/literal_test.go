package granary_test

import (
	"math/big"
	"math/rand/v2"
	"slices"
	"testing"

	"granary/api"
	"granary/granary"
)

// These tests hold the calls against the document's words, written down as they
// stand there, without regard to how long they take.

func literalSummary(values, weights []int) []api.Entry {
	var list []api.Entry
	for v := -1000; v <= 1000; v++ {
		e := api.Entry{Value: v}
		for i, w := range weights {
			if values[i] < v {
				e.Low += w
			}
			if values[i] == v {
				e.Weight += w
			}
		}
		e.High = e.Low + e.Weight
		if e.Weight > 0 {
			list = append(list, e)
		}
	}
	return list
}

func literalJoin(a, b []api.Entry) []api.Entry {
	var list []api.Entry
	for v := -1000; v <= 1000; v++ {
		i := slices.IndexFunc(a, func(e api.Entry) bool { return e.Value == v })
		j := slices.IndexFunc(b, func(e api.Entry) bool { return e.Value == v })
		switch {
		case i >= 0 && j >= 0:
			list = append(list, api.Entry{Value: v, Low: a[i].Low + b[j].Low, High: a[i].High + b[j].High, Weight: a[i].Weight + b[j].Weight})
		case i >= 0:
			list = append(list, literalAlone(a[i], b))
		case j >= 0:
			list = append(list, literalAlone(b[j], a))
		}
	}
	return list
}

func literalAlone(e api.Entry, other []api.Entry) api.Entry {
	low, high := 0, 0
	if len(other) > 0 {
		high = other[len(other)-1].High
	}
	for _, o := range other {
		if o.Value < e.Value {
			low = o.Low + o.Weight
		}
	}
	for _, o := range slices.Backward(other) {
		if o.Value > e.Value {
			high = o.High - o.Weight
		}
	}
	return api.Entry{Value: e.Value, Low: e.Low + low, High: e.High + high, Weight: e.Weight}
}

func literalCut(list []api.Entry, size int) []api.Entry {
	size = max(size, 2)
	if len(list) <= size {
		return list
	}
	taken := make([]int, len(list))
	kept := []api.Entry{list[0]}
	for k := 1; k <= size-2; k++ {
		share := big.NewRat(int64(2*k*list[len(list)-1].High), int64(size-1))
		best, at := (*big.Rat)(nil), 0
		for i := 1; i < len(list)-1; i++ {
			far := new(big.Rat).Sub(big.NewRat(int64(list[i].Low+list[i].High), 1), share)
			far.Abs(far)
			if best == nil || far.Cmp(best) < 0 {
				best, at = far, i
			}
		}
		if taken[at] == 0 {
			kept = append(kept, list[at])
		}
		taken[at] = k
	}
	return append(kept, list[len(list)-1])
}

// someValues are few different ones or many, of like weights or unlike ones.
func someValues(r *rand.Rand) (values, weights []int) {
	spread, heaviest := 1+r.IntN(60), 1+r.IntN(3)*r.IntN(400)
	middle := r.IntN(100) - 50
	for range r.IntN(60) {
		values = append(values, middle+r.IntN(spread))
		weights = append(weights, 1+r.IntN(heaviest))
	}
	return values, weights
}

func TestCallsAgainstTheWords(t *testing.T) {
	r := rand.New(rand.NewPCG(1, 2))
	for range 150 {
		var pool [][]api.Entry
		for range 3 {
			v, w := someValues(r)
			got, want := granary.Summary(v, w), literalSummary(v, w)
			if !slices.Equal(got, want) {
				t.Fatalf("P2: Summary(%v, %v) = %v, want %v", v, w, got, want)
			}
			pool = append(pool, got)
		}
		for range 6 {
			a, b := pool[r.IntN(len(pool))], pool[r.IntN(len(pool))]
			joined, want := granary.Join(a, b), literalJoin(a, b)
			if !slices.Equal(joined, want) {
				t.Fatalf("P2: Join(%v, %v) = %v, want %v", a, b, joined, want)
			}
			size := r.IntN(len(joined)+3) - 1
			cut, want := granary.Cut(joined, size), literalCut(joined, size)
			if !slices.Equal(cut, want) {
				t.Fatalf("P2: Cut(%v, %d) = %v, want %v", joined, size, cut, want)
			}
			pool = append(pool, cut)
		}
	}
}

// TestGreatTotals goes up to the greatest total for which Join and Cut promise
// something.
func TestGreatTotals(t *testing.T) {
	var values, weights []int
	for i := range 40 {
		values, weights = append(values, i*i), append(weights, 1000-i*7)
	}
	list := granary.Summary(values, weights)
	for {
		joined := granary.Join(list, list)
		if joined[len(joined)-1].High > 1000000000000 {
			return
		}
		for i, e := range joined {
			was := list[i]
			if e != entry(was.Value, 2*was.Low, 2*was.High, 2*was.Weight) {
				t.Fatalf("P2: Join of %v with itself has %v", was, e)
			}
		}
		for size := range len(joined) + 2 {
			if got, want := granary.Cut(joined, size), literalCut(joined, size); !slices.Equal(got, want) {
				t.Fatalf("P2: Cut(%v, %d) = %v, want %v", joined, size, got, want)
			}
		}
		list = joined
	}
}
