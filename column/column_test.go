package column_test

import (
	"math/rand/v2"
	"slices"
	"testing"

	"granary/column"
)

// wantColumn holds a column against the numbers that it was made of.
func wantColumn(t *testing.T, numbers []int, greatest, width int, letter byte) {
	t.Helper()
	c := column.Of(numbers, greatest)
	if c.Rows() != len(numbers) || c.Width() != width {
		t.Errorf("P5: a column of %d rows, %d bits wide, want %d, %d", c.Rows(), c.Width(), len(numbers), width)
	}
	for row, n := range numbers {
		if c.At(row) != n {
			t.Fatalf("P5: row %d of %v is %d", row, numbers, c.At(row))
		}
	}
	bytes := c.Append([]byte("ahead"))
	if string(bytes[:5]) != "ahead" || bytes[5] != letter {
		t.Errorf("P5: the column of %v is written %q, want the letter %q", numbers, bytes, letter)
	}
	wantReadAgain(t, bytes[5:], len(numbers), greatest)
}

// wantReadAgain reads a column, and writes it again.
func wantReadAgain(t *testing.T, bytes []byte, rows, greatest int) {
	t.Helper()
	place := 0
	next := func() int {
		place++
		return int(bytes[place-1])
	}
	c := column.Read(next, rows, greatest)
	if again := c.Append(nil); !slices.Equal(again, bytes) || place != len(bytes) {
		t.Errorf("P11: what is written %q is, once it is read, written %q", bytes, again)
	}
}

func TestWidths(t *testing.T) {
	for greatest, width := range map[int]int{2: 2, 3: 2, 4: 3, 7: 3, 8: 4, 15: 4, 16: 5, 31: 5, 32: 6, 40: 6} {
		wantColumn(t, []int{greatest, 0, 1, greatest, greatest}, greatest, width, 'd')
		wantColumn(t, []int{0, 0, 0, 0, greatest}, greatest, width, 's')
		wantColumn(t, nil, greatest, width, 'd')
	}
}

func TestColumns(t *testing.T) {
	r := rand.New(rand.NewPCG(11, 12))
	for range 500 {
		greatest, often := 2+r.IntN(39), r.IntN(101)
		numbers := make([]int, r.IntN(201))
		some := 0
		for row := range numbers {
			if r.IntN(100) < often {
				numbers[row] = 1 + r.IntN(greatest)
				some++
			}
		}
		letter := byte('d')
		if 4*some < len(numbers) {
			letter = 's'
		}
		width := 0
		for 1<<width <= greatest {
			width++
		}
		wantColumn(t, numbers, greatest, width, letter)
	}
}
