package feature

import (
	"cmp"
	"slices"

	"granary/api"
)

func ofWords(cut, bins int) Feature {
	return Feature{
		Read:  (*Part).takeWord,
		Learn: func(values []Value, weights []int) Edges { return learnWords(values, weights, cut, bins) },
		Bin:   orMissing(binOfWord),
	}
}

func (p *Part) takeWord(b byte) bool {
	switch p.state {
	case atStart:
		return p.takeOpening(b) || p.takeLetter(b)
	case inLetters:
		return p.takeLetter(b)
	case inQuotes:
		return p.takeQuote(b) || p.takeSign(b)
	}
	return p.takeSecondQuote(b)
}

func (p *Part) takeOpening(b byte) bool {
	if b != '"' {
		return false
	}
	p.state = inQuotes
	return true
}

func (p *Part) takeLetter(b byte) bool {
	if !isLetter(b) || p.full() {
		return false
	}
	p.state = inLetters
	p.word = append(p.word, b)
	return true
}

// takeSign is asked when the byte is no quote.
func (p *Part) takeSign(b byte) bool {
	if !isSign(b) || p.full() {
		return false
	}
	p.word = append(p.word, b)
	return true
}

// takeQuote cannot know yet whether the word ends, or has a quote.
func (p *Part) takeQuote(b byte) bool {
	if b != '"' {
		return false
	}
	p.state = afterQuote
	return true
}

func (p *Part) takeSecondQuote(b byte) bool {
	if b != '"' || p.full() {
		return false
	}
	p.state = inQuotes
	p.word = append(p.word, b)
	return true
}

func (p *Part) full() bool {
	return len(p.word) == api.MaxWord
}

func isLetter(b byte) bool {
	return 'a' <= b && b <= 'z'
}

// isSign tells whether a word may have the byte.
func isSign(b byte) bool {
	return isLetter(b) || b == ' ' || b == ',' || b == '\n' || b == '"'
}

func isWord(s string) bool {
	for i := range len(s) {
		if !isSign(s[i]) {
			return false
		}
	}
	return len(s) <= api.MaxWord
}

type weighed struct {
	word   string
	weight int
}

func learnWords(values []Value, weights []int, cut, bins int) Edges {
	sums := map[string]int{}
	for i, v := range values {
		if !v.Missing {
			sums[v.Word] += weights[i]
		}
	}
	var heavy []weighed
	for word, weight := range sums {
		if weight >= cut {
			heavy = append(heavy, weighed{word, weight})
		}
	}
	slices.SortFunc(heavy, heaviestFirst)
	e := Edges{Word: true}
	for _, w := range heavy[:min(len(heavy), bins)] {
		e.Words = append(e.Words, w.word)
	}
	return e
}

func heaviestFirst(a, b weighed) int {
	return cmp.Or(cmp.Compare(b.weight, a.weight), cmp.Compare(a.word, b.word))
}

func binOfWord(e Edges, v Value) int {
	place := slices.Index(e.Words, v.Word)
	if place < 0 {
		return len(e.Words)
	}
	return place
}
