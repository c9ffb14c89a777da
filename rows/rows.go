// Package rows: reads the text of a table, byte by byte.
package rows

import (
	"granary/api"
	"granary/feature"
)

const maxWeight = 99

// Table is the rows that are whole, by columns.
type Table struct {
	Weights []int
	Columns [][]feature.Value
}

// Reader knows of a text what is needed to go on reading it.
type Reader struct {
	features []feature.Feature
	table    Table
	weight   int             // of the row that has begun, as far as it is read
	fields   bool            // the weight is whole
	row      []feature.Value // the fields that are whole
	part     feature.Part    // the field that has begun
}

// NewReader makes a reader of rows with these features.
func NewReader(features []feature.Feature) *Reader {
	return &Reader{
		features: features,
		table:    Table{Columns: make([][]feature.Value, len(features))},
	}
}

// Take reads the next byte: ErrMany, if there may be none, ErrForm, if this one
// may not stand there.
func (r *Reader) Take(b byte) api.Errno {
	if len(r.table.Weights) == api.MaxRows {
		return api.ErrMany
	}
	take := r.takeInWeight
	if r.fields {
		take = r.takeInField
	}
	if !take(b) {
		return api.ErrForm
	}
	return api.OK
}

// Whole tells whether the text may end: no row has begun.
func (r *Reader) Whole() bool {
	return r.weight == 0
}

// Table tells the rows.
func (r *Reader) Table() Table {
	return r.table
}

func (r *Reader) takeInWeight(b byte) bool {
	if b == ',' && r.weight > 0 {
		r.fields = true
		return true
	}
	if b < '0' || b > '9' {
		return false
	}
	weight := r.weight*10 + int(b-'0')
	if weight < 1 || weight > maxWeight {
		return false
	}
	r.weight = weight
	return true
}

// takeInField asks the feature first: within quotes the byte that ends a field
// is a sign as others are.
func (r *Reader) takeInField(b byte) bool {
	if r.features[len(r.row)].Read(&r.part, b) {
		return true
	}
	if b != r.separator() || !r.part.MayEnd() {
		return false
	}
	r.row = append(r.row, r.part.Value())
	r.part = feature.Part{}
	if len(r.row) == len(r.features) {
		r.endRow()
	}
	return true
}

func (r *Reader) separator() byte {
	if len(r.row) == len(r.features)-1 {
		return '\n'
	}
	return ','
}

func (r *Reader) endRow() {
	r.table.Weights = append(r.table.Weights, r.weight)
	for i, v := range r.row {
		r.table.Columns[i] = append(r.table.Columns[i], v)
	}
	r.weight, r.fields, r.row = 0, false, nil
}
