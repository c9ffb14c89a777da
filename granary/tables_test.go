package granary_test

import (
	"cmp"
	"math/rand/v2"
	"reflect"
	"slices"
	"strconv"
	"strings"
	"testing"

	"granary/api"
	"granary/granary"
)

// These tests make tables, and hold what the calls tell of their texts against
// the document's words, written down as they stand there.

// field is what stands in a row; its text is made from it.
type field struct {
	missing bool
	number  int
	word    string
}

type madeTable struct {
	config  api.Config
	weights []int
	fields  [][]field // of each feature those of all rows
}

func someConfig(r *rand.Rand) api.Config {
	c := api.Config{Bins: 2 + r.IntN(15)}
	c.Size = c.Bins + r.IntN(33-c.Bins)
	c.Budget = r.IntN(3) * r.IntN(11)
	for range 1 + r.IntN(4) {
		if r.IntN(2) == 0 {
			c.Features = append(c.Features, words(1+r.IntN(3)*r.IntN(400)))
		} else {
			c.Features = append(c.Features, numbers(r.IntN(4)))
		}
	}
	return c
}

// someFields are such that seldom or often another one than the usual one comes.
func someFields(r *rand.Rand, f api.Feature, rows int) []field {
	usual, rarely, kinds := field{}, r.IntN(101), 1+r.IntN(40)
	if r.IntN(4) == 0 {
		usual.missing = true
	}
	var list []field
	for range rows {
		x := usual
		if r.IntN(100) < rarely {
			x = field{missing: r.IntN(10) == 0, number: r.IntN(kinds) - r.IntN(kinds)}
			if r.IntN(30) == 0 {
				x.number *= 1234
			}
			if f.Word {
				x = field{missing: x.missing, word: someWord(r, kinds)}
			}
		}
		list = append(list, x)
	}
	return list
}

func someWord(r *rand.Rand, kinds int) string {
	n, word := r.IntN(kinds), ""
	for n > 0 && len(word) < 8 {
		word += string("ab\n \",z"[n%7])
		n /= 7
	}
	return word
}

func someTable(r *rand.Rand) madeTable {
	t := madeTable{config: someConfig(r)}
	rows := []int{r.IntN(10), r.IntN(60), r.IntN(201), 200}[r.IntN(4)]
	for range rows {
		t.weights = append(t.weights, 1+r.IntN(99)*r.IntN(2))
	}
	for _, f := range t.config.Features {
		t.fields = append(t.fields, someFields(r, f, rows))
	}
	return t
}

func (t madeTable) text(r *rand.Rand) string {
	var b strings.Builder
	for row, w := range t.weights {
		b.WriteString(strconv.Itoa(w))
		for f, list := range t.fields {
			b.WriteString("," + list[row].text(r, t.config.Features[f]))
		}
		b.WriteString("\n")
	}
	return b.String()
}

func (x field) text(r *rand.Rand, f api.Feature) string {
	switch {
	case x.missing:
		return ""
	case f.Word:
		bare := x.word != "" && strings.Trim(x.word, "abz") == ""
		if bare && r.IntN(2) == 0 {
			return x.word
		}
		return `"` + strings.ReplaceAll(x.word, `"`, `""`) + `"`
	}
	s := strconv.Itoa(max(x.number, -x.number))
	s = strings.Repeat("0", max(0, f.Scale+1-len(s))) + s
	whole, behind := s[:len(s)-f.Scale], s[len(s)-f.Scale:]
	for strings.HasSuffix(behind, "0") && r.IntN(2) == 0 {
		behind = behind[:len(behind)-1]
	}
	if behind != "" {
		whole += "." + behind
	}
	if x.number < 0 || x.number == 0 && r.IntN(2) == 0 {
		whole = "-" + whole
	}
	return whole
}

// literalOfFeature is the summary of a feature of numbers.
func literalOfFeature(values, weights []int, size int) []api.Entry {
	type leveled struct {
		level int
		list  []api.Entry
	}
	var all []leveled
	for block := range slices.Chunk(slices.Collect(indices(len(values))), size) {
		var v, w []int
		for _, i := range block {
			v, w = append(v, values[i]), append(w, weights[i])
		}
		newer := leveled{0, granary.Summary(v, w)}
		for {
			same := slices.IndexFunc(all, func(l leveled) bool { return l.level == newer.level })
			if same < 0 {
				break
			}
			newer = leveled{newer.level + 1, granary.Cut(granary.Join(all[same].list, newer.list), size)}
			all = slices.Delete(all, same, same+1)
		}
		all = append(all, newer)
	}
	slices.SortFunc(all, func(a, b leveled) int { return cmp.Compare(a.level, b.level) })
	var so []api.Entry
	for _, l := range all {
		so = granary.Cut(granary.Join(so, l.list), size)
	}
	return so
}

func indices(n int) func(yield func(int) bool) {
	return func(yield func(int) bool) {
		for i := range n {
			if !yield(i) {
				return
			}
		}
	}
}

func literalBounds(list []api.Entry, bins int) []int {
	var bounds []int
	if len(list) == 0 {
		return nil
	}
	last := list[len(list)-1]
	if len(list) <= bins {
		for _, e := range list {
			bounds = append(bounds, e.Value)
		}
	} else {
		for k := 1; k < bins; k++ {
			i := slices.IndexFunc(list, func(e api.Entry) bool { return bins*e.High >= k*last.High })
			bounds = append(bounds, list[i].Value)
		}
	}
	bounds = slices.DeleteFunc(bounds, func(b int) bool { return b == last.Value })
	return slices.Compact(bounds)
}

func literalWords(list []field, weights []int, cut, bins int) []string {
	weight := map[string]int{}
	for row, x := range list {
		if !x.missing {
			weight[x.word] += weights[row]
		}
	}
	var dictionary []string
	for word, w := range weight {
		if w >= cut {
			dictionary = append(dictionary, word)
		}
	}
	slices.SortFunc(dictionary, func(a, b string) int {
		if weight[a] != weight[b] {
			return weight[b] - weight[a]
		}
		return strings.Compare(a, b)
	})
	return dictionary[:min(bins, len(dictionary))]
}

// wanted is what a dataset has to tell.
type wanted struct {
	bounds   [][]int
	words    [][]string
	howMany  []int
	bins     [][]int // of each feature those of all rows
	defaults []int
	bundles  [][]int
}

func (t madeTable) wanted() wanted {
	w := wanted{}
	for i, f := range t.config.Features {
		var bounds []int
		var dictionary []string
		if f.Word {
			dictionary = literalWords(t.fields[i], t.weights, f.Cut, t.config.Bins)
		} else {
			var v, weights []int
			for row, x := range t.fields[i] {
				if !x.missing {
					v, weights = append(v, x.number), append(weights, t.weights[row])
				}
			}
			bounds = literalBounds(literalOfFeature(v, weights, t.config.Size), t.config.Bins)
		}
		var bins []int
		counts := make([]int, 20)
		for _, x := range t.fields[i] {
			bin := literalBin(x, f, bounds, dictionary)
			bins = append(bins, bin)
			counts[bin]++
		}
		most := 0
		for bin, n := range counts {
			if n > counts[most] {
				most = bin
			}
		}
		w.bounds, w.words = append(w.bounds, bounds), append(w.words, dictionary)
		w.howMany = append(w.howMany, len(bounds)+len(dictionary)+2)
		w.bins, w.defaults = append(w.bins, bins), append(w.defaults, most)
	}
	w.bundles = w.literalBundles(t.config.Budget, len(t.weights))
	return w
}

func literalBin(x field, f api.Feature, bounds []int, dictionary []string) int {
	switch {
	case x.missing:
		return len(bounds) + len(dictionary) + 1
	case f.Word:
		if place := slices.Index(dictionary, x.word); place >= 0 {
			return place
		}
		return len(dictionary)
	}
	bin := 0
	for _, b := range bounds {
		if b < x.number {
			bin++
		}
	}
	return bin
}

func (w wanted) standsOut(row, f int) bool {
	return w.bins[f][row] != w.defaults[f]
}

func (w wanted) literalBundles(budget, rows int) [][]int {
	var order []int
	for stand := rows; stand >= 0; stand-- {
		for f := range w.bins {
			n := 0
			for row := range rows {
				if w.standsOut(row, f) {
					n++
				}
			}
			if n == stand {
				order = append(order, f)
			}
		}
	}
	var bundles [][]int
	for _, f := range order {
		put := false
		for i, b := range bundles {
			if w.conflicts(append(slices.Clone(b), f), rows) <= budget && w.wide(append(slices.Clone(b), f)) <= 40 {
				bundles[i] = append(b, f)
				put = true
				break
			}
		}
		if !put {
			bundles = append(bundles, []int{f})
		}
	}
	return bundles
}

// conflicts are those of all features of a bundle when they were put to it.
func (w wanted) conflicts(bundle []int, rows int) int {
	n := 0
	for i, f := range bundle {
		for row := range rows {
			if w.standsOut(row, f) && slices.ContainsFunc(bundle[:i], func(g int) bool { return w.standsOut(row, g) }) {
				n++
			}
		}
	}
	return n
}

func (w wanted) wide(bundle []int) int {
	n := 0
	for _, f := range bundle {
		n += w.howMany[f]
	}
	return n
}

// low writes a number, the lowest byte first.
func low(n, bytes int) string {
	s := ""
	for range bytes {
		s += string([]byte{byte(n & 255)})
		n >>= 8
	}
	return s
}

func (w wanted) literalBytes(features []api.Feature, rows int) string {
	s := "GR" + low(rows, 1) + low(len(features), 1)
	for i, f := range features {
		if f.Word {
			s += "w" + low(w.defaults[i], 1) + low(len(w.words[i]), 1)
			for _, word := range w.words[i] {
				s += low(len(word), 1) + word
			}
		} else {
			s += "n" + low(w.defaults[i], 1) + low(len(w.bounds[i]), 1)
			for _, b := range w.bounds[i] {
				s += low(b, 4)
			}
		}
	}
	s += low(len(w.bundles), 1)
	for _, b := range w.bundles {
		s += low(len(b), 1)
		for _, f := range b {
			s += low(f, 1)
		}
		s += w.literalColumn(b, rows)
	}
	exceptions, n := "", 0
	for row := range rows {
		for f := range features {
			if w.standsOut(row, f) && w.isException(row, f) {
				exceptions += low(row, 1) + low(f, 1) + low(w.bins[f][row], 1)
				n++
			}
		}
	}
	return sealed(s + low(n, 2) + exceptions)
}

func (w wanted) isException(row, f int) bool {
	for _, b := range w.bundles {
		if place := slices.Index(b, f); place >= 0 {
			return slices.ContainsFunc(b[:place], func(g int) bool { return w.standsOut(row, g) })
		}
	}
	return false
}

func (w wanted) literalColumn(bundle []int, rows int) string {
	var column []int
	sparse, ahead, some := "", -1, 0
	for row := range rows {
		says, offset := 0, 1
		for _, f := range bundle {
			if says == 0 && w.standsOut(row, f) {
				says = offset + w.bins[f][row]
			}
			offset += w.howMany[f]
		}
		column = append(column, says)
		if says != 0 {
			sparse += low(row-ahead, 1) + low(says, 1)
			ahead = row
			some++
		}
	}
	if 4*some < rows {
		return "s" + low(some, 1) + sparse
	}
	width := len(strconv.FormatInt(int64(w.wide(bundle)), 2))
	bits := ""
	for _, says := range column {
		b := strconv.FormatInt(int64(says), 2)
		b = strings.Repeat("0", width-len(b)) + b
		for i := range width {
			bits += b[width-1-i : width-i]
		}
	}
	packed := "d"
	for bits != "" {
		bits += strings.Repeat("0", max(0, 8-len(bits)))
		n := 0
		for i := range 8 {
			n += int(bits[i]-'0') << i
		}
		packed, bits = packed+low(n, 1), bits[8:]
	}
	return packed
}

func inPieces(r *rand.Rand, text string) []string {
	var pieces []string
	longest := 1 + r.IntN(100)
	for text != "" {
		n := min(len(text), r.IntN(longest+1))
		pieces, text = append(pieces, text[:n]), text[n:]
	}
	return pieces
}

func TestTablesAgainstTheWords(t *testing.T) {
	r := rand.New(rand.NewPCG(5, 6))
	for range 1500 {
		table := someTable(r)
		c, rows := table.config, len(table.weights)
		text := table.text(r)
		d := read(t, c, inPieces(r, text)...)
		want := table.wanted()
		if d.Rows() != rows {
			t.Fatalf("P5: Rows() of %+v, %q = %d, want %d", c, text, d.Rows(), rows)
		}
		for f := range c.Features {
			bounds, dictionary, e := d.Bounds(f)
			if !slices.Equal(bounds, want.bounds[f]) || !slices.Equal(dictionary, want.words[f]) || e != api.OK {
				t.Fatalf("P5: Bounds(%d) of %+v, %q = %v, %q, %d, want %v, %q", f, c, text, bounds, dictionary, e, want.bounds[f], want.words[f])
			}
			if isWord := c.Features[f].Word; isWord && bounds != nil || !isWord && dictionary != nil {
				t.Fatalf("P5: Bounds(%d) of %+v = %v, %q: one has to be nil", f, c, bounds, dictionary)
			}
			for row := range rows {
				if bin, e := d.Lookup(row, f); bin != want.bins[f][row] || e != api.OK {
					t.Fatalf("P5: Lookup(%d, %d) of %+v, %q = %d, %d, want %d", row, f, c, text, bin, e, want.bins[f][row])
				}
			}
		}
		if got := d.Bundles(); !reflect.DeepEqual(got, want.bundles) {
			t.Fatalf("P5: Bundles() of %+v, %q = %v, want %v", c, text, got, want.bundles)
		}
		if got, bytes := d.Bytes(), want.literalBytes(c.Features, rows); got != bytes {
			t.Fatalf("P5: Bytes() of %+v, %q = %q, want %q", c, text, got, bytes)
		}
		table.wantTrueBounds(t, d)
	}
}

// wantTrueBounds holds the bounds against P10 alone.
func (t madeTable) wantTrueBounds(test *testing.T, d *granary.Dataset) {
	test.Helper()
	for i, f := range t.config.Features {
		if f.Word {
			continue
		}
		bounds, _, _ := d.Bounds(i)
		if len(bounds) >= t.config.Bins {
			test.Fatalf("P10: with %d bins there are %d bounds", t.config.Bins, len(bounds))
		}
		different := map[int]int{}
		for row, x := range t.fields[i] {
			if !x.missing {
				different[x.number], _ = d.Lookup(row, i)
			}
		}
		for k, b := range bounds {
			if _, ok := different[b]; !ok || k > 0 && b <= bounds[k-1] {
				test.Fatalf("P10: of the bounds %v %d is no value, or does not rise", bounds, b)
			}
		}
		bins := map[int]int{}
		for _, bin := range different {
			bins[bin]++
		}
		if len(different) <= t.config.Bins && len(bins) != len(different) {
			test.Fatalf("P10: %d different numbers have %d of %d bins", len(different), len(bins), t.config.Bins)
		}
	}
}
