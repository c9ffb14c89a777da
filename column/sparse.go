package column

import (
	"cmp"
	"slices"
)

const letterSparse = 's'

// sparse has the rows that are not 0.
type sparse struct {
	shape
	cells []cell
}

type cell struct {
	row, number int
}

func newSparse(s shape, numbers []int) *sparse {
	c := &sparse{shape: s}
	for row, n := range numbers {
		if n != 0 {
			c.cells = append(c.cells, cell{row, n})
		}
	}
	return c
}

func (c *sparse) At(row int) int {
	place, found := slices.BinarySearchFunc(c.cells, row, func(x cell, row int) int { return cmp.Compare(x.row, row) })
	if !found {
		return 0
	}
	return c.cells[place].number
}

func (c *sparse) Append(to []byte) []byte {
	to = append(to, letterSparse, byte(len(c.cells)))
	ahead := -1
	for _, x := range c.cells {
		to = append(to, byte(x.row-ahead), byte(x.number))
		ahead = x.row
	}
	return to
}
