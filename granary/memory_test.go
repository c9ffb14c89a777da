package granary_test

import (
	"math"
	"math/rand/v2"
	"slices"
	"strings"
	"testing"

	"granary/api"
	"granary/granary"
)

// roomy gives a list with marks in its spare room, and all of it.
func roomy[T any](list []T, mark T) (short, all []T) {
	all = append(slices.Clone(list), mark, mark, mark)
	return all[:len(list)], all
}

// scribble writes into all that a caller may write into.
func scribble(list []api.Entry) {
	list = list[:cap(list)]
	for i := range list {
		list[i] = entry(-77, -77, -77, -77)
	}
}

func TestSummaryKeepsToItsMemory(t *testing.T) {
	for _, n := range []int{0, 1, 2, 3} {
		v, allV := roomy([]int{5, 2000000000, 5}[:n], 77)
		w, allW := roomy([]int{1, -2, 4}[:n], 77)
		wasV, wasW := slices.Clone(allV), slices.Clone(allW)
		first := granary.Summary(v, w)
		want := slices.Clone(first)
		second := granary.Summary(v, w)
		if !slices.Equal(first, want) || !slices.Equal(second, want) {
			t.Errorf("P1: Summary told %v, then %v and %v", want, first, second)
		}
		scribble(first)
		if !slices.Equal(second, want) || !slices.Equal(granary.Summary(v, w), want) {
			t.Errorf("P1: two answers of Summary share memory")
		}
		scribble(second)
		if !slices.Equal(allV, wasV) || !slices.Equal(allW, wasW) {
			t.Errorf("P1: Summary was handed %v, %v: it is %v, %v", wasV, wasW, allV, allW)
		}
	}
}

func TestJoinAndCutKeepToTheirMemory(t *testing.T) {
	long := granary.Summary([]int{1, 2, 3, 4, 5, 6}, []int{1, 2, 3, 4, 5, 6})
	short := granary.Summary([]int{2, 9}, []int{5, 5})
	mark := entry(77, 77, 77, 77)
	for _, lists := range [][2][]api.Entry{{long, short}, {short, long}, {nil, long}, {long, nil}, {long[:1], nil}, {nil, nil}, {long, long}} {
		a, allA := roomy(lists[0], mark)
		b, allB := roomy(lists[1], mark)
		wasA, wasB := slices.Clone(allA), slices.Clone(allB)
		calls := []func() []api.Entry{func() []api.Entry { return granary.Join(a, b) }, func() []api.Entry { return granary.Join(a, a) }}
		for _, size := range []int{-1, 2, 3, 5, 6, 7, 1000} {
			calls = append(calls, func() []api.Entry { return granary.Cut(a, size) })
		}
		for i, call := range calls {
			first := call()
			want := slices.Clone(first)
			second := call()
			scribble(first)
			if !slices.Equal(second, want) || !slices.Equal(call(), want) {
				t.Errorf("P1: two answers of call %d on %v, %v share memory", i, lists[0], lists[1])
			}
			scribble(second)
			if !slices.Equal(allA, wasA) || !slices.Equal(allB, wasB) {
				t.Fatalf("P1: call %d was handed %v, %v: it is %v, %v", i, wasA, wasB, allA, allB)
			}
		}
	}
}

// TestNothingHandedInIsKept changes the arguments after the call.
func TestNothingHandedInIsKept(t *testing.T) {
	v, w := []int{3, 1, 2}, []int{1, 1, 1}
	list := granary.Summary(v, w)
	clear(v)
	clear(w)
	want := []api.Entry{entry(1, 0, 1, 1), entry(2, 1, 2, 1), entry(3, 2, 3, 1)}
	if !slices.Equal(list, want) {
		t.Errorf("P1: what Summary told became %v", list)
	}
	joined, whole, part := granary.Join(list, nil), granary.Cut(list, 3), granary.Cut(list, 2)
	clear(list)
	if !slices.Equal(joined, want) || !slices.Equal(whole, want) {
		t.Errorf("P1: what Join and Cut told became %v, %v", joined, whole)
	}
	if !slices.Equal(part, []api.Entry{want[0], want[2]}) {
		t.Errorf("P1: what Cut told became %v", part)
	}
}

// noSummary makes a list that none of the calls would tell.
func noSummary(r *rand.Rand) []api.Entry {
	numbers := []int{math.MinInt, math.MinInt + 1, -1000000000001, -5, -1, 0, 1, 2, 3, 1000000000000, math.MaxInt - 1, math.MaxInt}
	pick := func() int { return numbers[r.IntN(len(numbers))] }
	list := make([]api.Entry, r.IntN(12))
	for i := range list {
		list[i] = entry(pick(), pick(), pick(), pick())
	}
	return list
}

func TestListsThatAreNoSummaries(t *testing.T) {
	r := rand.New(rand.NewPCG(3, 4))
	mark := entry(77, 77, 77, 77)
	for range 20000 {
		a, allA := roomy(noSummary(r), mark)
		b, allB := roomy(noSummary(r), mark)
		wasA, wasB := slices.Clone(allA), slices.Clone(allB)
		scribble(granary.Join(a, b))
		for _, size := range []int{math.MinInt, -1, 0, 1, 2, 3, 4, 5, 8, math.MaxInt} {
			scribble(granary.Cut(a, size))
			scribble(granary.Cut(granary.Join(a, b), size))
		}
		if !slices.Equal(allA, wasA) || !slices.Equal(allB, wasB) {
			t.Fatalf("P1: lists that are no summaries were %v, %v and are %v, %v", wasA, wasB, allA, allB)
		}
	}
	same := make([]api.Entry, 1000)
	for size := range 1002 {
		granary.Cut(same, size)
	}
	granary.Join(same, same)
}

// TestLongLists would not end in a reasonable time if a call went through the
// whole list for each entry.
func TestLongLists(t *testing.T) {
	const n = 300000
	values, weights := make([]int, n), make([]int, n)
	for i := range n {
		values[i], weights[i] = (i*7919)%n, 1+i%1000
	}
	list := granary.Summary(values, weights)
	if len(list) != n {
		t.Fatalf("P2: Summary of %d different values has %d entries", n, len(list))
	}
	joined := granary.Join(list, granary.Cut(list, n/2))
	if len(joined) != n {
		t.Errorf("P2: Join of a summary and itself, cut, has %d entries, want %d", len(joined), n)
	}
	cut := granary.Cut(joined, n-1)
	if len(cut) > n-1 || cut[0] != joined[0] || cut[len(cut)-1] != joined[n-1] {
		t.Errorf("P2: Cut to %d has %d entries, from %v to %v", n-1, len(cut), cut[0], cut[len(cut)-1])
	}
}

// TestReaderKeepsNothingHandedIn changes the configuration behind the call.
func TestReaderKeepsNothingHandedIn(t *testing.T) {
	c := richConfig()
	features, all := roomy(c.Features, api.Feature{Scale: 77})
	c.Features = features
	was := slices.Clone(all)
	x := newReader(t, c)
	feed(t, x, rich[:20])
	if !slices.Equal(all, was) {
		t.Errorf("P1: Reader was handed %v: it is %v", was, all)
	}
	for i := range all {
		all[i] = api.Feature{Word: true, Cut: 99}
	}
	c.Bins, c.Size, c.Budget = 2, 2, 0
	feed(t, x, rich[20:])
	sameDataset(t, closed(t, x), read(t, richConfig(), rich), 3)
}

// TestDatasetKeepsToItsMemory writes into all lists that come out, and into
// their spare room.
func TestDatasetKeepsToItsMemory(t *testing.T) {
	d, want := read(t, richConfig(), rich), read(t, richConfig(), rich)
	first, second := d.Bundles(), d.Bundles()
	for _, list := range first[:cap(first)] {
		fill(list, -77)
	}
	fill(first, nil)
	if !slices.EqualFunc(second, want.Bundles(), slices.Equal) {
		t.Errorf("P1: two answers of Bundles share memory: %v", second)
	}
	for f := range 3 {
		bounds, dictionary, _ := d.Bounds(f)
		laterBounds, laterDictionary, _ := d.Bounds(f)
		fill(bounds, -77)
		fill(dictionary, "scribble")
		wantBounds, wantDictionary, _ := want.Bounds(f)
		if !slices.Equal(laterBounds, wantBounds) || !slices.Equal(laterDictionary, wantDictionary) {
			t.Errorf("P1: two answers of Bounds(%d) share memory: %v, %q", f, laterBounds, laterDictionary)
		}
	}
	sameDataset(t, d, want, 3)
}

// TestListsOfBundlesShareNothing appends to one list within another.
func TestListsOfBundlesShareNothing(t *testing.T) {
	c := api.Config{Features: make([]api.Feature, 4), Bins: 2, Size: 2}
	d := read(t, c, outs(9, "xx..", "xx..", "x...", "..xx"))
	want, lists := d.Bundles(), d.Bundles()
	for i := range lists {
		fill(append(lists[i], -1, -2, -3), -77)
		for j := i + 1; j < len(lists); j++ {
			if !slices.Equal(lists[j], want[j]) {
				t.Errorf("P1: list %d of Bundles shares memory with list %d: %v", i, j, lists[j])
			}
		}
	}
}

func fill[T any](list []T, mark T) {
	list = list[:cap(list)]
	for i := range list {
		list[i] = mark
	}
}

// TestReadersDoNotTouchOneAnother feeds three of them in turns: one is wrong.
func TestReadersDoNotTouchOneAnother(t *testing.T) {
	a, b, bad := newReader(t, richConfig()), newReader(t, richConfig()), newReader(t, richConfig())
	other := "5,1,b,2\n5,2,c,3\n"
	wantFeed(t, bad, "0", api.ErrForm, 0)
	for i := range len(rich) {
		feed(t, a, rich[i:i+1])
		if i < len(other) {
			feed(t, b, other[i:i+1])
		}
		wantFeed(t, bad, rich[i:i+1], api.ErrForm, 0)
	}
	first := closed(t, a)
	bytes := first.Bytes()
	sameDataset(t, closed(t, b), read(t, richConfig(), other), 3)
	sameDataset(t, first, read(t, richConfig(), rich), 3)
	if first.Bytes() != bytes {
		t.Errorf("P1: the bytes of a dataset have changed")
	}
}

// TestLongTexts are refused at their first wrong byte, however long they are.
func TestLongTexts(t *testing.T) {
	long := strings.Repeat("9", 1<<24)
	for text, place := range map[string]int{long: 2, "1," + long: 7, "1,-" + long: 8, "1,1,\"" + strings.Repeat("a", 1<<24): 13} {
		x := newReader(t, plain(2, numbers(1), words(1)))
		wantFeed(t, x, text, api.ErrForm, place)
		wantNoClose(t, x, api.ErrForm, place)
	}
}
