package feature

// Edges say where a feature is cut into bins: at the bounds of its numbers, or
// by the words of its dictionary.
type Edges struct {
	Word   bool
	Bounds []int
	Words  []string
}

// Count is how many bounds or words there are.
func (e Edges) Count() int {
	if e.Word {
		return len(e.Words)
	}
	return len(e.Bounds)
}

// Missing is the bin of a field that is empty: the one behind all others.
func (e Edges) Missing() int {
	return e.Count() + 1
}

// HowMany is the number of bins.
func (e Edges) HowMany() int {
	return e.Missing() + 1
}
