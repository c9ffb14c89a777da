package feature

import (
	"slices"

	"granary/api"
)

// Edges say where a feature is cut into bins: at the bounds of its numbers, or
// by the words of its dictionary.
type Edges struct {
	Word   bool
	Bounds []int
	Words  []string
}

// Count is how many bounds or words there are.
func (e Edges) Count() int {
	if e.Word {
		return len(e.Words)
	}
	return len(e.Bounds)
}

// MayBe tells whether they are not too many, and the bounds rise, or the words
// are words, no two of them the same.
func (e Edges) MayBe() bool {
	return e.Count() <= api.MaxBins && rise(e.Bounds) && areWords(e.Words)
}

func rise(numbers []int) bool {
	for i := 1; i < len(numbers); i++ {
		if numbers[i-1] >= numbers[i] {
			return false
		}
	}
	return true
}

func areWords(list []string) bool {
	for i, s := range list {
		if !isWord(s) || slices.Contains(list[:i], s) {
			return false
		}
	}
	return true
}

// Missing is the bin of a field that is empty: the one behind all others.
func (e Edges) Missing() int {
	return e.Count() + 1
}

// HowMany is the number of bins.
func (e Edges) HowMany() int {
	return e.Missing() + 1
}
