// Package feature: how a column of the table is read, and how it is cut into bins.
package feature

import "granary/api"

// Value is what a field says: a number, a word, or nothing.
type Value struct {
	Missing bool
	Number  int
	Word    string
}

// Feature is one of numbers or one of words: the functions are all that tells
// them apart. They are made once, from the configuration.
type Feature struct {
	// Read takes a byte into a field. If the byte may not stand there, it
	// answers false, and the field stays as it was.
	Read func(p *Part, b byte) bool
	// Learn finds out from all values, with their weights, where to cut.
	Learn func(values []Value, weights []int) Edges
	// Bin finds a value's bin.
	Bin func(e Edges, v Value) int
}

// FromConfig makes the features of a configuration.
func FromConfig(c api.Config) []Feature {
	features := make([]Feature, len(c.Features))
	for i, f := range c.Features {
		if f.Word {
			features[i] = ofWords(f.Cut, c.Bins)
		} else {
			features[i] = ofNumbers(f.Scale, c.Bins, c.Size)
		}
	}
	return features
}

// Bins finds the bins of many values.
func (f Feature) Bins(e Edges, values []Value) []int {
	bins := make([]int, len(values))
	for i, v := range values {
		bins[i] = f.Bin(e, v)
	}
	return bins
}

// orMissing lets a way of finding bins see only values that are there.
func orMissing(bin func(e Edges, v Value) int) func(e Edges, v Value) int {
	return func(e Edges, v Value) int {
		if v.Missing {
			return e.Missing()
		}
		return bin(e, v)
	}
}
