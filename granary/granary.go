// Package granary: rows of a table, in few bits: see DOC.md.
package granary

import (
	"granary/api"
	"granary/dataset"
	"granary/disk"
	"granary/summary"
)

// Check tells whether it is a configuration (P2).
func Check(c api.Config) api.Errno {
	if !isConfig(c) {
		return api.ErrArg
	}
	return api.OK
}

// Summary tells the summary of values (P2).
func Summary(values, weights []int) []api.Entry { return summary.Of(values, weights) }

// Join joins two summaries (P2).
func Join(a, b []api.Entry) []api.Entry { return summary.Join(a, b) }

// Cut cuts a summary (P2).
func Cut(a []api.Entry, size int) []api.Entry { return summary.Cut(a, size) }

// Intake reads rows.
type Intake struct {
	text   *text // nil, when nothing more can come of it
	closed bool
	fault  api.Errno
	place  int
}

// Reader makes a reader (P3).
func Reader(c api.Config) (*Intake, api.Errno) {
	if !isConfig(c) {
		return nil, api.ErrArg
	}
	return &Intake{text: newText(c)}, api.OK
}

// Feed takes a piece (P3).
func (x *Intake) Feed(piece string) (api.Errno, int) {
	if x.closed {
		return api.ErrArg, 0
	}
	if x.fault == api.OK {
		x.take(piece)
	}
	return x.fault, x.place
}

// Close ends the text (P3).
func (x *Intake) Close() (*Dataset, api.Errno, int) {
	if x.closed {
		return nil, api.ErrArg, 0
	}
	if x.fault != api.OK {
		return nil, x.fault, x.place
	}
	whole := x.text
	x.closed, x.text = true, nil
	if !whole.rows.Whole() {
		return nil, api.ErrForm, whole.length
	}
	return &Dataset{whole.dataset()}, api.OK, 0
}

// Dataset is rows, in few bits.
type Dataset struct {
	data *dataset.Dataset
}

// Rows tells how many there are (P5).
func (d *Dataset) Rows() int { return d.data.Rows() }

// Lookup tells a row's bin (P5).
func (d *Dataset) Lookup(row, feature int) (int, api.Errno) {
	if !within(row, 0, d.data.Rows()-1) || !d.hasFeature(feature) {
		return 0, api.ErrArg
	}
	return d.data.Lookup(row, feature), api.OK
}

// Bounds tells a feature's bounds, or its dictionary (P5).
func (d *Dataset) Bounds(feature int) ([]int, []string, api.Errno) {
	if !d.hasFeature(feature) {
		return nil, nil, api.ErrArg
	}
	bounds, words := d.data.Bounds(feature)
	return bounds, words, api.OK
}

// Bundles tells which features are laid together (P5).
func (d *Dataset) Bundles() [][]int { return d.data.Bundles() }

// Bytes writes the dataset (P5).
func (d *Dataset) Bytes() string { return d.data.Bytes() }

// Open reads a dataset (P6).
func Open(s string) (*Dataset, api.Errno) {
	data, ok := dataset.Open(s)
	if !ok {
		return nil, api.ErrForm
	}
	return &Dataset{data}, api.OK
}

// Store is a disk.
type Store struct {
	disk *disk.Disk
}

// Disk makes a disk (P7).
func Disk(room int) (*Store, api.Errno) {
	if !within(room, 0, api.MaxRoom) {
		return nil, api.ErrArg
	}
	return &Store{disk.New(room)}, api.OK
}

// Save saves a dataset (P7).
func (s *Store) Save(d *Dataset) api.Errno { return s.disk.Save(d.Bytes()) }

// Load loads what was saved (P8).
func (s *Store) Load() (*Dataset, api.Errno) {
	bytes, e := s.disk.Load()
	if e != api.OK {
		return nil, e
	}
	return Open(bytes)
}

// Fail lets power fail (P8).
func (s *Store) Fail(steps, keep int) api.Errno { return s.disk.Fail(steps, keep) }

// Start starts the disk again (P8).
func (s *Store) Start() api.Errno { return s.disk.Start() }
