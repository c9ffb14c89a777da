package feature

import (
	"slices"

	"granary/api"
	"granary/summary"
)

const maxDigits = 5

func ofNumbers(scale, bins, size int) Feature {
	unit := 1
	for range scale {
		unit *= 10
	}
	return Feature{
		Read:  func(p *Part, b byte) bool { return p.takeNumber(b, unit) },
		Learn: func(values []Value, weights []int) Edges { return learnBounds(values, weights, bins, size) },
		Bin:   orMissing(binOfNumber),
	}
}

func (p *Part) takeNumber(b byte, unit int) bool {
	switch p.state {
	case atStart:
		return p.takeMinus(b) || p.takeFirstDigit(b, unit)
	case afterMinus:
		return p.takeFirstDigit(b, unit)
	case inWhole:
		return p.takeDigit(b) || p.takePoint(b)
	case afterZero:
		return p.takePoint(b)
	}
	return p.takeDigitBehind(b)
}

func (p *Part) takeMinus(b byte) bool {
	if b != '-' {
		return false
	}
	p.state, p.negative = afterMinus, true
	return true
}

func (p *Part) takeFirstDigit(b byte, unit int) bool {
	if !isDigit(b) {
		return false
	}
	p.state, p.digits, p.unit, p.number = inWhole, 1, unit, worth(b, unit)
	if b == '0' {
		p.state = afterZero
	}
	return true
}

func (p *Part) takeDigit(b byte) bool {
	if !isDigit(b) || p.digits == maxDigits {
		return false
	}
	p.digits++
	p.number = p.number*10 + worth(b, p.unit)
	return true
}

// takePoint leans on the unit: it is 1 if the scale leaves no room behind a
// point.
func (p *Part) takePoint(b byte) bool {
	if b != '.' || p.unit == 1 {
		return false
	}
	p.state = afterPoint
	return true
}

func (p *Part) takeDigitBehind(b byte) bool {
	if !isDigit(b) || p.unit == 1 {
		return false
	}
	p.state = inFraction
	p.unit /= 10
	p.number += worth(b, p.unit)
	return true
}

func isDigit(b byte) bool {
	return '0' <= b && b <= '9'
}

func worth(digit byte, unit int) int {
	return int(digit-'0') * unit
}

func learnBounds(values []Value, weights []int, bins, size int) Edges {
	var numbers, theirWeights []int
	for i, v := range values {
		if !v.Missing {
			numbers = append(numbers, v.Number)
			theirWeights = append(theirWeights, weights[i])
		}
	}
	return Edges{Bounds: bounds(summary.InBlocks(numbers, theirWeights, size), bins)}
}

func bounds(list []api.Entry, bins int) []int {
	if len(list) == 0 {
		return nil
	}
	butLast := list[:len(list)-1]
	var found []int
	if len(list) <= bins {
		for _, e := range butLast {
			found = append(found, e.Value)
		}
		return found
	}
	total := list[len(list)-1].High
	share := 1
	for _, e := range butLast {
		reached := sharesReached(e.High, total, bins)
		if reached >= share {
			found = append(found, e.Value)
			share = reached + 1
		}
	}
	return found
}

// sharesReached tells up to which of the equal shares of the total it is. High
// rises from entry to entry: an entry is the first one for those shares that
// the entry ahead of it has not reached, and none but the last one reaches all.
func sharesReached(high, total, shares int) int {
	return shares * high / total
}

// binOfNumber counts the bounds that are less: they rise, so it is the place
// where the number would stand among them.
func binOfNumber(e Edges, v Value) int {
	less, _ := slices.BinarySearch(e.Bounds, v.Number)
	return less
}
