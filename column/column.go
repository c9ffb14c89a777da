// Package column: a number of each row, in few bits.
package column

import "math/bits"

// Column is a dense or a sparse one.
type Column interface {
	Rows() int
	Width() int
	// At tells the number of a row that there is.
	At(row int) int
	// Append writes the column's letter and its numbers behind the bytes.
	Append(to []byte) []byte
}

// shape is what all columns share.
type shape struct {
	rows, width int
}

// Rows tells how many rows there are.
func (s shape) Rows() int {
	return s.rows
}

// Width tells how many bits a number may need.
func (s shape) Width() int {
	return s.width
}

// Of makes the column of some numbers, none of them greater than it says: the
// sparse one, if fewer than a quarter of them are not 0.
func Of(numbers []int, greatest int) Column {
	s := shape{rows: len(numbers), width: bitsOf(greatest)}
	if 4*notZero(numbers) < s.Rows() {
		return newSparse(s, numbers)
	}
	return newDense(s, numbers)
}

func bitsOf(greatest int) int {
	return bits.Len(uint(greatest))
}

func notZero(numbers []int) int {
	count := 0
	for _, n := range numbers {
		if n != 0 {
			count++
		}
	}
	return count
}
