package summary

import "granary/api"

// InBlocks makes the summary of a feature: of any number of values, with never
// more than size entries in hand for each level.
func InBlocks(values, weights []int, size int) []api.Entry {
	var levels [][]api.Entry
	for from := 0; from < len(values); from += size {
		to := min(from+size, len(values))
		levels = takeIn(levels, Of(values[from:to], weights[from:to]), size)
	}
	var all []api.Entry
	for _, list := range levels {
		all = Cut(Join(all, list), size)
	}
	return all
}

// takeIn carries a summary up to the first level that has none, as in a count
// by twos. A level without entries has none.
func takeIn(levels [][]api.Entry, list []api.Entry, size int) [][]api.Entry {
	for i, older := range levels {
		if len(older) == 0 {
			levels[i] = list
			return levels
		}
		list = Cut(Join(older, list), size)
		levels[i] = nil
	}
	return append(levels, list)
}
