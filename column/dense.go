package column

const letterDense = 'd'

// dense has all numbers, bit behind bit.
type dense struct {
	shape
	packed []byte
}

func newDense(s shape, numbers []int) *dense {
	d := &dense{shape: s, packed: make([]byte, (s.Rows()*s.Width()+7)/8)}
	for row, n := range numbers {
		d.put(row, n)
	}
	return d
}

// put leans on all bits being 0 ahead of it.
func (d *dense) put(row, n int) {
	first := row * d.Width()
	for i := range d.Width() {
		bit := byte(n>>i) & 1
		d.packed[(first+i)/8] |= bit << ((first + i) % 8)
	}
}

func (d *dense) At(row int) int {
	n, first := 0, row*d.Width()
	for i := range d.Width() {
		bit := d.packed[(first+i)/8] >> ((first + i) % 8) & 1
		n |= int(bit) << i
	}
	return n
}

func (d *dense) Append(to []byte) []byte {
	return append(append(to, letterDense), d.packed...)
}
