package feature

// Part is a field as far as it has been read. Its zero value is an empty one.
type Part struct {
	state    state
	negative bool
	digits   int // ahead of the point
	unit     int // what the last digit was worth
	number   int
	word     []byte
}

type state int

const (
	atStart state = iota
	afterMinus
	afterZero
	inWhole
	afterPoint
	inFraction
	inLetters
	inQuotes
	afterQuote
)

// MayEnd tells whether the field is whole.
func (p *Part) MayEnd() bool {
	switch p.state {
	case afterMinus, afterPoint, inQuotes:
		return false
	}
	return true
}

// Value tells what a whole field says.
func (p *Part) Value() Value {
	v := Value{Missing: p.state == atStart, Number: p.number, Word: string(p.word)}
	if p.negative {
		v.Number = -v.Number
	}
	return v
}
