package granary_test

import (
	"math"
	"math/rand/v2"
	"slices"
	"testing"

	"granary/api"
	"granary/granary"
)

// roomy gives a list with marks in its spare room, and all of it.
func roomy[T any](list []T, mark T) (short, all []T) {
	all = append(slices.Clone(list), mark, mark, mark)
	return all[:len(list)], all
}

// scribble writes into all that a caller may write into.
func scribble(list []api.Entry) {
	list = list[:cap(list)]
	for i := range list {
		list[i] = entry(-77, -77, -77, -77)
	}
}

func TestSummaryKeepsToItsMemory(t *testing.T) {
	for _, n := range []int{0, 1, 2, 3} {
		v, allV := roomy([]int{5, 2000000000, 5}[:n], 77)
		w, allW := roomy([]int{1, -2, 4}[:n], 77)
		wasV, wasW := slices.Clone(allV), slices.Clone(allW)
		first := granary.Summary(v, w)
		want := slices.Clone(first)
		second := granary.Summary(v, w)
		if !slices.Equal(first, want) || !slices.Equal(second, want) {
			t.Errorf("P1: Summary told %v, then %v and %v", want, first, second)
		}
		scribble(first)
		if !slices.Equal(second, want) || !slices.Equal(granary.Summary(v, w), want) {
			t.Errorf("P1: two answers of Summary share memory")
		}
		scribble(second)
		if !slices.Equal(allV, wasV) || !slices.Equal(allW, wasW) {
			t.Errorf("P1: Summary was handed %v, %v: it is %v, %v", wasV, wasW, allV, allW)
		}
	}
}

func TestJoinAndCutKeepToTheirMemory(t *testing.T) {
	long := granary.Summary([]int{1, 2, 3, 4, 5, 6}, []int{1, 2, 3, 4, 5, 6})
	short := granary.Summary([]int{2, 9}, []int{5, 5})
	mark := entry(77, 77, 77, 77)
	for _, lists := range [][2][]api.Entry{{long, short}, {short, long}, {nil, long}, {long, nil}, {long[:1], nil}, {nil, nil}, {long, long}} {
		a, allA := roomy(lists[0], mark)
		b, allB := roomy(lists[1], mark)
		wasA, wasB := slices.Clone(allA), slices.Clone(allB)
		calls := []func() []api.Entry{func() []api.Entry { return granary.Join(a, b) }, func() []api.Entry { return granary.Join(a, a) }}
		for _, size := range []int{-1, 2, 3, 5, 6, 7, 1000} {
			calls = append(calls, func() []api.Entry { return granary.Cut(a, size) })
		}
		for i, call := range calls {
			first := call()
			want := slices.Clone(first)
			second := call()
			scribble(first)
			if !slices.Equal(second, want) || !slices.Equal(call(), want) {
				t.Errorf("P1: two answers of call %d on %v, %v share memory", i, lists[0], lists[1])
			}
			scribble(second)
			if !slices.Equal(allA, wasA) || !slices.Equal(allB, wasB) {
				t.Fatalf("P1: call %d was handed %v, %v: it is %v, %v", i, wasA, wasB, allA, allB)
			}
		}
	}
}

// TestNothingHandedInIsKept changes the arguments after the call.
func TestNothingHandedInIsKept(t *testing.T) {
	v, w := []int{3, 1, 2}, []int{1, 1, 1}
	list := granary.Summary(v, w)
	clear(v)
	clear(w)
	want := []api.Entry{entry(1, 0, 1, 1), entry(2, 1, 2, 1), entry(3, 2, 3, 1)}
	if !slices.Equal(list, want) {
		t.Errorf("P1: what Summary told became %v", list)
	}
	joined, whole, part := granary.Join(list, nil), granary.Cut(list, 3), granary.Cut(list, 2)
	clear(list)
	if !slices.Equal(joined, want) || !slices.Equal(whole, want) {
		t.Errorf("P1: what Join and Cut told became %v, %v", joined, whole)
	}
	if !slices.Equal(part, []api.Entry{want[0], want[2]}) {
		t.Errorf("P1: what Cut told became %v", part)
	}
}

// noSummary makes a list that none of the calls would tell.
func noSummary(r *rand.Rand) []api.Entry {
	numbers := []int{math.MinInt, math.MinInt + 1, -1000000000001, -5, -1, 0, 1, 2, 3, 1000000000000, math.MaxInt - 1, math.MaxInt}
	pick := func() int { return numbers[r.IntN(len(numbers))] }
	list := make([]api.Entry, r.IntN(12))
	for i := range list {
		list[i] = entry(pick(), pick(), pick(), pick())
	}
	return list
}

func TestListsThatAreNoSummaries(t *testing.T) {
	r := rand.New(rand.NewPCG(3, 4))
	mark := entry(77, 77, 77, 77)
	for range 20000 {
		a, allA := roomy(noSummary(r), mark)
		b, allB := roomy(noSummary(r), mark)
		wasA, wasB := slices.Clone(allA), slices.Clone(allB)
		scribble(granary.Join(a, b))
		for _, size := range []int{math.MinInt, -1, 0, 1, 2, 3, 4, 5, 8, math.MaxInt} {
			scribble(granary.Cut(a, size))
			scribble(granary.Cut(granary.Join(a, b), size))
		}
		if !slices.Equal(allA, wasA) || !slices.Equal(allB, wasB) {
			t.Fatalf("P1: lists that are no summaries were %v, %v and are %v, %v", wasA, wasB, allA, allB)
		}
	}
	same := make([]api.Entry, 1000)
	for size := range 1002 {
		granary.Cut(same, size)
	}
	granary.Join(same, same)
}

// TestLongLists would not end in a reasonable time if a call went through the
// whole list for each entry.
func TestLongLists(t *testing.T) {
	const n = 300000
	values, weights := make([]int, n), make([]int, n)
	for i := range n {
		values[i], weights[i] = (i*7919)%n, 1+i%1000
	}
	list := granary.Summary(values, weights)
	if len(list) != n {
		t.Fatalf("P2: Summary of %d different values has %d entries", n, len(list))
	}
	joined := granary.Join(list, granary.Cut(list, n/2))
	if len(joined) != n {
		t.Errorf("P2: Join of a summary and itself, cut, has %d entries, want %d", len(joined), n)
	}
	cut := granary.Cut(joined, n-1)
	if len(cut) > n-1 || cut[0] != joined[0] || cut[len(cut)-1] != joined[n-1] {
		t.Errorf("P2: Cut to %d has %d entries, from %v to %v", n-1, len(cut), cut[0], cut[len(cut)-1])
	}
}
