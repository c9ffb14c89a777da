// Package dataset: the bins of all rows and features, in few bits.
package dataset

import (
	"cmp"
	"slices"

	"granary/column"
	"granary/feature"
)

// Dataset has one feature and one bundle at least.
type Dataset struct {
	features   []known
	bundles    []bundle
	exceptions []exception // by rows and then features rising
}

// known is what is known of a feature: its edges and its default.
type known struct {
	feature.Edges
	defaultBin int
}

// bundle is features that share a column.
type bundle struct {
	features []int
	column   column.Column
}

// exception is what the column of the feature's bundle had no room for.
type exception struct {
	row, feature, bin int
}

func byRowAndFeature(a, b exception) int {
	return cmp.Or(cmp.Compare(a.row, b.row), cmp.Compare(a.feature, b.feature))
}

// Rows tells how many rows there are.
func (d *Dataset) Rows() int {
	return d.bundles[0].column.Rows()
}

// Features tells how many features there are.
func (d *Dataset) Features() int {
	return len(d.features)
}

// Lookup tells the bin of a row and feature that there are.
func (d *Dataset) Lookup(row, f int) int {
	b, offset := d.seat(f)
	bin := b.column.At(row) - offset
	if 0 <= bin && bin < d.features[f].HowMany() {
		return bin
	}
	place, found := slices.BinarySearchFunc(d.exceptions, exception{row: row, feature: f}, byRowAndFeature)
	if found {
		return d.exceptions[place].bin
	}
	return d.features[f].defaultBin
}

// seat finds the bundle that a feature is in, and its offset there.
func (d *Dataset) seat(f int) (b bundle, offset int) {
	for _, b = range d.bundles {
		offset = 1
		for _, g := range b.features {
			if g == f {
				return b, offset
			}
			offset += d.features[g].HowMany()
		}
	}
	return b, offset
}

// Bounds tells the bounds of a feature of numbers, or the words of one of words.
func (d *Dataset) Bounds(f int) ([]int, []string) {
	k := d.features[f]
	if k.Word {
		return nil, append([]string{}, k.Words...)
	}
	return append([]int{}, k.Bounds...), nil
}

// Bundles tells the features of each bundle.
func (d *Dataset) Bundles() [][]int {
	lists := make([][]int, len(d.bundles))
	for i, b := range d.bundles {
		lists[i] = slices.Clone(b.features)
	}
	return lists
}
