// Package summary: what is known of many weighted values, in few entries.
package summary

import (
	"cmp"
	"slices"

	"granary/api"
)

const (
	maxValue  = 1000000000
	maxWeight = 1000
)

// Of makes the summary of the values that have a weight.
func Of(values, weights []int) []api.Entry {
	entries := make([]api.Entry, min(len(values), len(weights)))
	for i := range entries {
		entries[i] = api.Entry{Value: boundedValue(values[i]), Weight: boundedWeight(weights[i])}
	}
	slices.SortFunc(entries, byValue)
	entries = mergeEqual(entries)
	rank(entries)
	return entries
}

func boundedValue(value int) int {
	return min(max(value, -maxValue), maxValue)
}

func boundedWeight(weight int) int {
	if weight < 1 || weight > maxWeight {
		return 1
	}
	return weight
}

func byValue(a, b api.Entry) int {
	return cmp.Compare(a.Value, b.Value)
}

// mergeEqual works in place: the list is the caller's own.
func mergeEqual(sorted []api.Entry) []api.Entry {
	merged := sorted[:0]
	for _, e := range sorted {
		last := len(merged) - 1
		if last >= 0 && merged[last].Value == e.Value {
			merged[last].Weight += e.Weight
		} else {
			merged = append(merged, e)
		}
	}
	return merged
}

func rank(entries []api.Entry) {
	total := 0
	for i := range entries {
		e := &entries[i]
		e.Low = total
		total += e.Weight
		e.High = total
	}
}

// Join makes one summary of two.
func Join(a, b []api.Entry) []api.Entry {
	joined := make([]api.Entry, 0, len(a)+len(b))
	i, j := 0, 0
	for i < len(a) && j < len(b) {
		switch {
		case a[i].Value < b[j].Value:
			joined = append(joined, seenFrom(b, j, a[i]))
			i++
		case a[i].Value > b[j].Value:
			joined = append(joined, seenFrom(a, i, b[j]))
			j++
		default:
			joined = append(joined, sum(a[i], b[j]))
			i++
			j++
		}
	}
	for ; i < len(a); i++ {
		joined = append(joined, seenFrom(b, j, a[i]))
	}
	for ; j < len(b); j++ {
		joined = append(joined, seenFrom(a, i, b[j]))
	}
	return joined
}

func sum(e, f api.Entry) api.Entry {
	return api.Entry{Value: e.Value, Low: e.Low + f.Low, High: e.High + f.High, Weight: e.Weight + f.Weight}
}

// seenFrom adds to an entry what a summary without its value knows of the
// values around it; next is the place of the first greater value there.
func seenFrom(other []api.Entry, next int, e api.Entry) api.Entry {
	e.Low += surelyBelow(other, next)
	e.High += perhapsBelow(other, next)
	return e
}

func surelyBelow(list []api.Entry, next int) int {
	if next == 0 {
		return 0
	}
	return list[next-1].Low + list[next-1].Weight
}

func perhapsBelow(list []api.Entry, next int) int {
	if next == len(list) {
		return total(list)
	}
	return list[next].High - list[next].Weight
}

func total(list []api.Entry) int {
	if len(list) == 0 {
		return 0
	}
	return list[len(list)-1].High
}

// Cut keeps at most size entries of a summary (but two at least): the ends,
// and those between that are nearest to equal shares of the total.
//
// In a summary Low and High both rise from entry to entry. So the nearest
// entry never lies ahead of the one for a smaller share, and one walk finds
// them all.
func Cut(list []api.Entry, size int) []api.Entry {
	size = max(size, 2)
	if len(list) <= size {
		return append([]api.Entry(nil), list...)
	}
	last := len(list) - 1
	kept := append(make([]api.Entry, 0, size), list[0])
	goal := multiples{step: 4 * total(list), parts: size - 1}
	at, taken := 1, 0
	for range size - 2 {
		goal.next()
		at = nearest(list, at, goal.roundedUp())
		if at != taken {
			kept = append(kept, list[at])
			taken = at
		}
	}
	return append(kept, list[last])
}

// nearest walks on from a place as long as the next entry, not the last one,
// is nearer to half the goal in its Low and High together. It is, if the middle
// between both is below that: so no fraction has to be worked out, and of two
// that are equally near the first one stays.
func nearest(list []api.Entry, at, goal int) int {
	for at+2 < len(list) && middle(list[at])+middle(list[at+1]) < goal {
		at++
	}
	return at
}

// middle is twice the middle of an entry's range.
func middle(e api.Entry) int {
	return e.Low + e.High
}

// multiples goes through step/parts, 2*step/parts, and so on. It adds, because
// a product of the count and the step may be beyond an int.
type multiples struct {
	step, parts int
	whole, rest int
}

func (m *multiples) next() {
	m.whole += m.step / m.parts
	m.rest += m.step % m.parts
	if m.rest >= m.parts {
		m.whole++
		m.rest -= m.parts
	}
}

func (m *multiples) roundedUp() int {
	if m.rest > 0 {
		return m.whole + 1
	}
	return m.whole
}
