package dataset

import (
	"slices"

	"granary/column"
	"granary/feature"
)

// Binned is a feature's edges, and its bins of all rows.
type Binned struct {
	Edges feature.Edges
	Bins  []int
}

// Make lays features together that seldom stand out in one row, with as many
// conflicts in a bundle as the budget says.
func Make(features []Binned, budget int) *Dataset {
	d := &Dataset{}
	outs := make([][]bool, len(features))
	for i, f := range features {
		k := known{Edges: f.Edges, defaultBin: mostFrequent(f.Bins, f.Edges.HowMany())}
		d.features = append(d.features, k)
		outs[i] = standingOut(f.Bins, k.defaultBin)
	}
	for _, g := range layTogether(d.features, outs, budget) {
		d.addBundle(g, features, outs)
	}
	slices.SortFunc(d.exceptions, byRowAndFeature)
	return d
}

// mostFrequent is the lowest of those that are equally frequent.
func mostFrequent(bins []int, howMany int) int {
	counts := make([]int, howMany)
	for _, bin := range bins {
		counts[bin]++
	}
	return slices.Index(counts, slices.Max(counts))
}

func standingOut(bins []int, defaultBin int) []bool {
	out := make([]bool, len(bins))
	for row, bin := range bins {
		out[row] = bin != defaultBin
	}
	return out
}

func (d *Dataset) addBundle(g *group, features []Binned, outs [][]bool) {
	numbers := make([]int, len(g.out))
	offset := 1
	for _, f := range g.features {
		for row, out := range outs[f] {
			bin := features[f].Bins[row]
			switch {
			case !out:
			case numbers[row] == 0:
				numbers[row] = offset + bin
			default:
				d.exceptions = append(d.exceptions, exception{row, f, bin})
			}
		}
		offset += d.features[f].HowMany()
	}
	d.bundles = append(d.bundles, bundle{g.features, column.Of(numbers, offset-1)})
}
