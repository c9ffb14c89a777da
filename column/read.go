package column

// Read makes a column of bytes that come one by one: of those that Append wrote
// the column that was written. Of others it makes one that Append writes
// otherwise.
func Read(next func() int, rows, greatest int) Column {
	numbers := make([]int, rows)
	if next() == letterSparse {
		readSparse(next, numbers)
	} else {
		readDense(next, numbers, bitsOf(greatest))
	}
	return Of(numbers, greatest)
}

func readDense(next func() int, numbers []int, width int) {
	d := newDense(shape{len(numbers), width}, nil)
	for i := range d.packed {
		d.packed[i] = byte(next())
	}
	for row := range numbers {
		numbers[row] = d.At(row)
	}
}

// readSparse leaves out a row that there is not: so fewer are written again.
func readSparse(next func() int, numbers []int) {
	row := -1
	for range next() {
		row += next()
		n := next()
		if 0 <= row && row < len(numbers) {
			numbers[row] = n
		}
	}
}
