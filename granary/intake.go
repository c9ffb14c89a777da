package granary

import (
	"granary/api"
	"granary/dataset"
	"granary/feature"
	"granary/rows"
)

// text is what has come so far, with nothing wrong in it.
type text struct {
	features []feature.Feature
	budget   int
	rows     *rows.Reader
	length   int
}

func newText(c api.Config) *text {
	features := feature.FromConfig(c)
	return &text{features: features, budget: c.Budget, rows: rows.NewReader(features)}
}

// take reads a piece up to the first byte that is wrong.
func (x *Intake) take(piece string) {
	for i := range len(piece) {
		if fault := x.text.rows.Take(piece[i]); fault != api.OK {
			x.fault, x.place, x.text = fault, x.text.length, nil
			return
		}
		x.text.length++
	}
}

func (t *text) dataset() *dataset.Dataset {
	table := t.rows.Table()
	binned := make([]dataset.Binned, len(t.features))
	for i, f := range t.features {
		values := table.Columns[i]
		edges := f.Learn(values, table.Weights)
		binned[i] = dataset.Binned{Edges: edges, Bins: f.Bins(edges, values)}
	}
	return dataset.Make(binned, t.budget)
}

func (d *Dataset) hasFeature(f int) bool {
	return within(f, 0, d.data.Features()-1)
}
