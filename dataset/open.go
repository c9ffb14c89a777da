package dataset

import (
	"granary/api"
	"granary/column"
)

// Open reads what Bytes wrote. While it reads, it refuses only what may not be in
// a dataset. Whether all of it is written as it should be, to the last byte, it
// asks at the end, by writing the dataset again.
func Open(s string) (*Dataset, bool) {
	d := &Dataset{}
	if !d.read(&source{s}) || d.Bytes() != s {
		return nil, false
	}
	return d, true
}

func (d *Dataset) read(from *source) bool {
	from.text(len(mark))
	rows, features := from.next(), from.next()
	if rows > api.MaxRows || features < 1 || features > api.MaxFeatures {
		return false
	}
	return d.readFeatures(from, features) && d.readBundles(from, rows) && d.readExceptions(from)
}

func (d *Dataset) readFeatures(from *source, count int) bool {
	for range count {
		k := readKnown(from)
		if !k.MayBe() || !k.hasBin(k.defaultBin) {
			return false
		}
		d.features = append(d.features, k)
	}
	return true
}

func readKnown(from *source) known {
	k := known{}
	k.Word = from.next() == letterWords
	k.defaultBin = from.next()
	for range from.next() {
		if k.Word {
			k.Words = append(k.Words, from.text(from.next()))
		} else {
			k.Bounds = append(k.Bounds, from.signed())
		}
	}
	return k
}

func (k known) hasBin(bin int) bool {
	return bin < k.HowMany()
}

// standsOut tells whether a row that stands out may have the bin.
func (k known) standsOut(bin int) bool {
	return k.hasBin(bin) && bin != k.defaultBin
}

func (d *Dataset) readBundles(from *source, rows int) bool {
	seats := make([]int, len(d.features))
	for range from.next() {
		b := bundle{features: readList(from)}
		if !d.mayBeLaidTogether(b.features) {
			return false
		}
		for _, f := range b.features {
			seats[f]++
		}
		b.column = column.Read(from.next, rows, d.bins(b.features))
		if !d.mayBeColumn(b) {
			return false
		}
		d.bundles = append(d.bundles, b)
	}
	return allOne(seats)
}

func readList(from *source) []int {
	list := make([]int, from.next())
	for i := range list {
		list[i] = from.next()
	}
	return list
}

func allOne(counts []int) bool {
	for _, n := range counts {
		if n != 1 {
			return false
		}
	}
	return true
}

func (d *Dataset) mayBeLaidTogether(features []int) bool {
	for _, f := range features {
		if f >= len(d.features) {
			return false
		}
	}
	return len(features) > 0 && d.bins(features) <= api.MaxWide
}

// bins counts those of all the features.
func (d *Dataset) bins(features []int) int {
	sum := 0
	for _, f := range features {
		sum += d.features[f].HowMany()
	}
	return sum
}

func (d *Dataset) mayBeColumn(b bundle) bool {
	for row := range b.column.Rows() {
		if n := b.column.At(row); n != 0 && !d.saysBin(b.features, n) {
			return false
		}
	}
	return true
}

// saysBin tells whether a number of a column, not 0, is the bin of one of the
// bundle's features, and not its default.
func (d *Dataset) saysBin(features []int, number int) bool {
	bin := number - 1
	for _, f := range features {
		k := d.features[f]
		if k.hasBin(bin) {
			return k.standsOut(bin)
		}
		bin -= k.HowMany()
	}
	return false
}

func (d *Dataset) readExceptions(from *source) bool {
	for range from.low(2) {
		x := exception{row: from.next(), feature: from.next(), bin: from.next()}
		if !d.mayFollow(x) || !d.mayExcept(x) {
			return false
		}
		d.exceptions = append(d.exceptions, x)
	}
	return true
}

// mayFollow tells whether it is behind all exceptions that there are.
func (d *Dataset) mayFollow(x exception) bool {
	last := len(d.exceptions) - 1
	return last < 0 || byRowAndFeature(d.exceptions[last], x) < 0
}

// mayExcept tells whether the column has no room for it: whether that says
// something of a feature ahead in the bundle.
func (d *Dataset) mayExcept(x exception) bool {
	if x.row >= d.Rows() || x.feature >= len(d.features) || !d.features[x.feature].standsOut(x.bin) {
		return false
	}
	b, offset := d.seat(x.feature)
	n := b.column.At(x.row)
	return 0 < n && n < offset
}
