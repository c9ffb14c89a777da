package dataset

const (
	mark          = "GR"
	letterNumbers = 'n'
	letterWords   = 'w'
)

// Bytes writes all that is known, and the check behind it.
func (d *Dataset) Bytes() string {
	out := append([]byte(mark), byte(d.Rows()), byte(len(d.features)))
	for _, k := range d.features {
		out = k.appendTo(out)
	}
	out = append(out, byte(len(d.bundles)))
	for _, b := range d.bundles {
		out = b.appendTo(out)
	}
	out = appendLow(out, len(d.exceptions), 2)
	for _, x := range d.exceptions {
		out = append(out, byte(x.row), byte(x.feature), byte(x.bin))
	}
	return string(appendLow(out, int(checksum(out)), 4))
}

func (k known) appendTo(out []byte) []byte {
	letter := byte(letterNumbers)
	if k.Word {
		letter = letterWords
	}
	out = append(out, letter, byte(k.defaultBin), byte(k.Count()))
	for _, bound := range k.Bounds {
		out = appendLow(out, bound, 4)
	}
	for _, word := range k.Words {
		out = append(out, byte(len(word)))
		out = append(out, word...)
	}
	return out
}

func (b bundle) appendTo(out []byte) []byte {
	out = append(out, byte(len(b.features)))
	for _, f := range b.features {
		out = append(out, byte(f))
	}
	return b.column.Append(out)
}

// appendLow writes the lowest bytes of a number, the lowest first.
func appendLow(out []byte, n, bytes int) []byte {
	for range bytes {
		out = append(out, byte(n))
		n >>= 8
	}
	return out
}
