package granary_test

import (
	"cmp"
	"math"
	"math/rand/v2"
	"slices"
	"strings"
	"testing"

	"granary/api"
	"granary/granary"
)

// written is a dataset as its bytes say it, whether rows would make it or not,
// and whether it may be or not.
type written struct {
	rows       int
	features   []writtenFeature
	bundles    []writtenBundle
	exceptions [][3]int // row, feature, bin
}

type writtenFeature struct {
	letter     string
	defaultBin int
	bounds     []int
	words      []string
}

type writtenBundle struct {
	features []int
	letter   string // `d`, `s`; none: the one that it should be
	numbers  []int  // of all rows
}

func ofNumbers(defaultBin int, bounds ...int) writtenFeature {
	return writtenFeature{letter: "n", defaultBin: defaultBin, bounds: bounds}
}

func ofWords(defaultBin int, list ...string) writtenFeature {
	return writtenFeature{letter: "w", defaultBin: defaultBin, words: list}
}

func (f writtenFeature) howMany() int {
	return len(f.bounds) + len(f.words) + 2
}

func (f writtenFeature) bytes() string {
	s := f.letter + low(f.defaultBin, 1) + low(len(f.bounds)+len(f.words), 1)
	for _, b := range f.bounds {
		s += low(b, 4)
	}
	for _, word := range f.words {
		s += low(len(word), 1) + word
	}
	return s
}

func (w written) wide(features []int) int {
	sum := 0
	for _, f := range features {
		if f < len(w.features) {
			sum += w.features[f].howMany()
		}
	}
	return sum
}

// bytes writes all of it, without the check.
func (w written) bytes() string {
	s := "GR" + low(w.rows, 1) + low(len(w.features), 1)
	for _, f := range w.features {
		s += f.bytes()
	}
	s += low(len(w.bundles), 1)
	for _, b := range w.bundles {
		s += low(len(b.features), 1)
		for _, f := range b.features {
			s += low(f, 1)
		}
		s += b.column(w.wide(b.features))
	}
	s += low(len(w.exceptions), 2)
	for _, x := range w.exceptions {
		s += low(x[0], 1) + low(x[1], 1) + low(x[2], 1)
	}
	return s
}

func (b writtenBundle) column(greatest int) string {
	some := 0
	for _, n := range b.numbers {
		some += min(n, 1)
	}
	if b.letter == "s" || b.letter == "" && 4*some < len(b.numbers) {
		return "s" + low(some, 1) + b.sparse()
	}
	return cmp.Or(b.letter, "d") + b.dense(greatest)
}

func (b writtenBundle) sparse() string {
	s, ahead := "", -1
	for row, n := range b.numbers {
		if n != 0 {
			s += low(row-ahead, 1) + low(n, 1)
			ahead = row
		}
	}
	return s
}

func (b writtenBundle) dense(greatest int) string {
	width := 0
	for 1<<width <= greatest {
		width++
	}
	packed := make([]byte, (width*len(b.numbers)+7)/8)
	for row, n := range b.numbers {
		for i := range width {
			packed[(row*width+i)/8] |= byte(n>>i&1) << ((row*width + i) % 8)
		}
	}
	return string(packed)
}

func (w written) bundleOf(f int) (b writtenBundle, offset int) {
	for _, b = range w.bundles {
		if place := slices.Index(b.features, f); place >= 0 {
			return b, 1 + w.wide(b.features[:place])
		}
	}
	return b, 0
}

func (w written) lookup(row, f int) int {
	for _, x := range w.exceptions {
		if x[0] == row && x[1] == f {
			return x[2]
		}
	}
	b, offset := w.bundleOf(f)
	if n := b.numbers[row]; offset <= n && n < offset+w.features[f].howMany() {
		return n - offset
	}
	return w.features[f].defaultBin
}

// wantOpened holds what Open makes of it against it.
func (w written) wantOpened(t *testing.T) *granary.Dataset {
	t.Helper()
	s := sealed(w.bytes())
	d, e := granary.Open(s)
	if d == nil || e != api.OK {
		t.Fatalf("P6: Open(%q) = %v, %d, want a dataset, OK", s, d, e)
	}
	if d.Rows() != w.rows || d.Bytes() != s {
		t.Fatalf("P6: of %q there are %d rows, the bytes are %q", s, d.Rows(), d.Bytes())
	}
	for f, x := range w.features {
		bounds, dictionary, e := d.Bounds(f)
		if !slices.Equal(bounds, x.bounds) || !slices.Equal(dictionary, x.words) || e != api.OK {
			t.Fatalf("P6: Bounds(%d) of %q = %v, %q, %d", f, s, bounds, dictionary, e)
		}
		if x.letter == "n" && dictionary != nil || x.letter == "w" && bounds != nil {
			t.Fatalf("P6: Bounds(%d) of %q = %v, %q: one has to be nil", f, s, bounds, dictionary)
		}
		for row := range w.rows {
			if bin, e := d.Lookup(row, f); bin != w.lookup(row, f) || e != api.OK {
				t.Fatalf("P6: Lookup(%d, %d) of %q = %d, %d, want %d", row, f, s, bin, e, w.lookup(row, f))
			}
		}
	}
	w.wantBundlesAndRefusals(t, d)
	return d
}

func (w written) wantBundlesAndRefusals(t *testing.T, d *granary.Dataset) {
	t.Helper()
	bundles := d.Bundles()
	same := func(list []int, b writtenBundle) bool { return slices.Equal(list, b.features) }
	if !slices.EqualFunc(bundles, w.bundles, same) {
		t.Fatalf("P6: Bundles() of %q = %v", w.bytes(), bundles)
	}
	for _, place := range [][2]int{{-1, 0}, {w.rows, 0}, {0, -1}, {0, len(w.features)}, {math.MaxInt, 0}, {0, math.MinInt}} {
		if bin, e := d.Lookup(place[0], place[1]); bin != 0 || e != api.ErrArg {
			t.Fatalf("P5: Lookup(%d, %d) of %q = %d, %d, want 0, ErrArg", place[0], place[1], w.bytes(), bin, e)
		}
	}
	for _, f := range []int{-1, len(w.features)} {
		if bounds, dictionary, e := d.Bounds(f); bounds != nil || dictionary != nil || e != api.ErrArg {
			t.Fatalf("P5: Bounds(%d) of %q = %v, %q, %d, want nil, nil, ErrArg", f, w.bytes(), bounds, dictionary, e)
		}
	}
}

// someWritten makes any dataset that may be.
func someWritten(r *rand.Rand) written {
	w := written{rows: []int{0, 1, 4, r.IntN(20), r.IntN(201), 200}[r.IntN(6)]}
	for range 1 + r.IntN(4) {
		w.features = append(w.features, someFeature(r))
	}
	for _, f := range r.Perm(len(w.features)) {
		place := r.IntN(len(w.bundles) + 1)
		if place == len(w.bundles) {
			w.bundles = append(w.bundles, writtenBundle{})
		}
		if w.wide(w.bundles[place].features)+w.features[f].howMany() > 40 {
			place = len(w.bundles)
			w.bundles = append(w.bundles, writtenBundle{})
		}
		w.bundles[place].features = append(w.bundles[place].features, f)
	}
	for i := range w.bundles {
		w.fillBundle(r, &w.bundles[i])
	}
	slices.SortFunc(w.exceptions, func(a, b [3]int) int { return slices.Compare(a[:], b[:]) })
	return w
}

func someFeature(r *rand.Rand) writtenFeature {
	count := []int{0, 16, r.IntN(17), r.IntN(4)}[r.IntN(4)]
	f := writtenFeature{letter: "n", defaultBin: r.IntN(count + 2)}
	if r.IntN(2) == 0 {
		f.letter = "w"
	}
	for len(f.bounds)+len(f.words) < count {
		if f.letter == "w" {
			word := anyWord(r)
			if !slices.Contains(f.words, word) {
				f.words = append(f.words, word)
			}
			continue
		}
		bound := []int{r.IntN(5) - 2, r.IntN(1000) - 500, int(int32(r.Uint32())), math.MinInt32, math.MaxInt32}[r.IntN(5)]
		if !slices.Contains(f.bounds, bound) {
			f.bounds = append(f.bounds, bound)
		}
	}
	slices.Sort(f.bounds)
	return f
}

func anyWord(r *rand.Rand) string {
	word := ""
	for range r.IntN(9) {
		word += string("abcxyz \",\n"[r.IntN(10)])
	}
	return word
}

// fillBundle says something of each row, and what it says of further features it
// puts to the exceptions.
func (w *written) fillBundle(r *rand.Rand, b *writtenBundle) {
	often := []int{0, 10, 25, r.IntN(101), 100}[r.IntN(5)]
	b.numbers = make([]int, w.rows)
	for row := range b.numbers {
		offset := 1
		for _, f := range b.features {
			x := w.features[f]
			bin := r.IntN(x.howMany())
			switch {
			case bin == x.defaultBin || r.IntN(100) >= often:
			case b.numbers[row] == 0:
				b.numbers[row] = offset + bin
			default:
				w.exceptions = append(w.exceptions, [3]int{row, f, bin})
			}
			offset += x.howMany()
		}
	}
}

// isDataset tells whether bytes are those of a dataset, with the document's words
// gone through one by one. What is told of them then, wantOpened asks.
func isDataset(s string) bool {
	if len(s) < 4 || sealed(s[:len(s)-4]) != s {
		return false
	}
	p := &pieces{rest: s[:len(s)-4]}
	w := written{}
	p.need(p.take(2) == "GR")
	w.rows = p.byte()
	p.need(w.rows <= 200)
	features := p.byte()
	p.need(1 <= features && features <= 4)
	for range features {
		w.features = append(w.features, p.feature())
	}
	seen := map[int]int{}
	for range p.byte() {
		b := writtenBundle{}
		for range p.byte() {
			f := p.byte()
			p.need(f < len(w.features))
			seen[f]++
			b.features = append(b.features, f)
		}
		p.need(len(b.features) > 0)
		p.need(w.wide(b.features) <= 40)
		b.numbers = p.numbers(w.rows, w.wide(b.features))
		for _, n := range b.numbers {
			p.need(n == 0 || w.says(b, n))
		}
		w.bundles = append(w.bundles, b)
	}
	for f := range w.features {
		p.need(seen[f] == 1)
	}
	p.exceptions(&w)
	return !p.wrong && p.rest == ""
}

// pieces are taken from the front of bytes. When something is wrong, all that is
// taken later is empty, or 0.
type pieces struct {
	rest  string
	wrong bool
}

func (p *pieces) need(ok bool) {
	if !ok {
		p.wrong, p.rest = true, ""
	}
}

func (p *pieces) take(n int) string {
	p.need(n <= len(p.rest))
	if p.wrong {
		return ""
	}
	s := p.rest[:n]
	p.rest = p.rest[n:]
	return s
}

func (p *pieces) byte() int {
	s := p.take(1)
	if s == "" {
		return 0
	}
	return int(s[0])
}

func (p *pieces) feature() writtenFeature {
	f := writtenFeature{letter: p.take(1), defaultBin: p.byte()}
	p.need(f.letter == "n" || f.letter == "w")
	count := p.byte()
	p.need(count <= 16)
	for range count {
		if f.letter == "n" {
			bound := p.byte() + p.byte()<<8 + p.byte()<<16 + p.byte()<<24
			if bound >= 1<<31 {
				bound -= 1 << 32
			}
			p.need(len(f.bounds) == 0 || f.bounds[len(f.bounds)-1] < bound)
			f.bounds = append(f.bounds, bound)
			continue
		}
		word := p.take(p.byte())
		p.need(len(word) <= 8 && strings.Trim(word, "abcdefghijklmnopqrstuvwxyz ,\n\"") == "")
		p.need(!slices.Contains(f.words, word))
		f.words = append(f.words, word)
	}
	p.need(f.defaultBin < f.howMany())
	return f
}

func (p *pieces) numbers(rows, greatest int) []int {
	numbers, letter, some := make([]int, rows), p.take(1), 0
	switch letter {
	case "d":
		width := 0
		for 1<<width <= greatest {
			width++
		}
		packed := p.take((rows*width + 7) / 8)
		for bit := range 8 * len(packed) {
			set := packed[bit/8]>>(bit%8)&1 == 1
			p.need(!set || bit < rows*width)
			if set && bit < rows*width {
				numbers[bit/width] += 1 << (bit % width)
			}
		}
	case "s":
		row := -1
		for range p.byte() {
			further, n := p.byte(), p.byte()
			row += further
			p.need(further > 0 && row < rows && n > 0)
			if !p.wrong {
				numbers[row] = n
			}
		}
	}
	for _, n := range numbers {
		some += min(n, 1)
	}
	p.need(letter == "s" && 4*some < rows || letter == "d" && 4*some >= rows)
	return numbers
}

func (w written) says(b writtenBundle, number int) bool {
	offset := 1
	for _, f := range b.features {
		x := w.features[f]
		if offset <= number && number < offset+x.howMany() {
			return number-offset != x.defaultBin
		}
		offset += x.howMany()
	}
	return false
}

func (p *pieces) exceptions(w *written) {
	last := []int{-1, -1}
	for range p.byte() + p.byte()<<8 {
		row, f, bin := p.byte(), p.byte(), p.byte()
		p.need(slices.Compare(last, []int{row, f}) < 0)
		p.need(row < w.rows && f < len(w.features))
		if p.wrong {
			return
		}
		last = []int{row, f}
		p.need(bin < w.features[f].howMany() && bin != w.features[f].defaultBin)
		b, offset := w.bundleOf(f)
		p.need(b.numbers[row] > 0 && b.numbers[row] < offset)
	}
}
