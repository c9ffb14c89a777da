package granary_test

import (
	"math"
	"math/rand/v2"
	"slices"
	"strings"
	"testing"

	"granary/api"
	"granary/granary"
)

// alone is the bundle of one feature.
func alone(f int, numbers ...int) writtenBundle {
	return writtenBundle{features: []int{f}, numbers: numbers}
}

func together(features []int, numbers ...int) writtenBundle {
	return writtenBundle{features: features, numbers: numbers}
}

// numbersUpTo makes so many numbers that rise.
func numbersUpTo(n int) []int {
	list := make([]int, n)
	for i := range list {
		list[i] = 10*i - 55
	}
	return list
}

func lettersUpTo(n int) []string {
	list := make([]string, n)
	for i := range list {
		list[i] = string(rune('p' - i))
	}
	return list
}

// mixed has features of both kinds, a dense and a sparse column, exceptions, and
// nothing in it is as rows would have it.
func mixed() written {
	return written{
		rows:     9,
		features: []writtenFeature{ofNumbers(2, -7, 0, 300), ofWords(0, "b", "a"), ofWords(1), ofNumbers(1)},
		bundles: []writtenBundle{
			together([]int{3, 0, 1}, 0, 1, 3, 7, 0, 10, 6, 1, 4),
			alone(2, 0, 0, 0, 0, 0, 0, 0, 1, 0),
		},
		exceptions: [][3]int{{1, 0, 4}, {1, 1, 3}, {2, 1, 1}, {7, 1, 2}},
	}
}

func TestOpenWhatMayBe(t *testing.T) {
	for _, w := range []written{
		mixed(),
		{rows: 0, features: []writtenFeature{ofNumbers(0)}, bundles: []writtenBundle{alone(0)}},
		{rows: 0, features: []writtenFeature{ofNumbers(1), ofWords(1), ofNumbers(0), ofWords(0)}, bundles: []writtenBundle{alone(3), together([]int{2, 0}), alone(1)}},
		{rows: 200, features: []writtenFeature{ofWords(1)}, bundles: []writtenBundle{alone(0, make([]int, 200)...)}},
		{rows: 200, features: []writtenFeature{ofWords(1)}, bundles: []writtenBundle{alone(0, slices.Repeat([]int{1}, 200)...)}},
		{rows: 2, features: []writtenFeature{ofNumbers(17, numbersUpTo(16)...)}, bundles: []writtenBundle{alone(0, 17, 0)}},
		{rows: 2, features: []writtenFeature{ofNumbers(0, numbersUpTo(16)...)}, bundles: []writtenBundle{alone(0, 18, 0)}},
		{rows: 2, features: []writtenFeature{ofWords(16, lettersUpTo(16)...)}, bundles: []writtenBundle{alone(0, 18, 1)}},
		{rows: 1, features: []writtenFeature{ofNumbers(0, math.MinInt32, -1, 0, 1, math.MaxInt32)}, bundles: []writtenBundle{alone(0, 7)}},
		{rows: 1, features: []writtenFeature{ofWords(0, "", "        ", "\n\n\n\n\n\n\n\n", ",,,,,,,,", `""""""""`, "azazazaz", "z", `a, "`+"\n")}, bundles: []writtenBundle{alone(0, 10)}},
		// 40 bins.
		{rows: 2, features: []writtenFeature{ofNumbers(0, numbersUpTo(16)...), ofWords(0, lettersUpTo(16)...), ofNumbers(0, 1, 2)}, bundles: []writtenBundle{together([]int{0, 2, 1}, 40, 0)}},
		{rows: 1, features: []writtenFeature{ofNumbers(1, numbersUpTo(8)...), ofNumbers(1, numbersUpTo(8)...), ofNumbers(1, numbersUpTo(8)...), ofNumbers(1, numbersUpTo(8)...)}, bundles: []writtenBundle{together([]int{3, 2, 1, 0}, 31)}},
		// A quarter of the rows, and fewer.
		{rows: 4, features: []writtenFeature{ofNumbers(0)}, bundles: []writtenBundle{{[]int{0}, "d", []int{0, 0, 0, 2}}}},
		{rows: 5, features: []writtenFeature{ofNumbers(0)}, bundles: []writtenBundle{{[]int{0}, "s", []int{0, 0, 0, 0, 2}}}},
		{rows: 8, features: []writtenFeature{ofNumbers(0)}, bundles: []writtenBundle{{[]int{0}, "d", []int{0, 0, 0, 2, 2, 0, 0, 0}}}},
		{rows: 8, features: []writtenFeature{ofNumbers(0)}, bundles: []writtenBundle{{[]int{0}, "s", []int{0, 0, 0, 2, 0, 0, 0, 0}}}},
		{rows: 1, features: []writtenFeature{ofNumbers(0)}, bundles: []writtenBundle{{[]int{0}, "s", []int{0}}}},
		// An exception of the last feature, and none of the one between.
		{rows: 1, features: []writtenFeature{ofNumbers(0), ofNumbers(0), ofNumbers(0)}, bundles: []writtenBundle{together([]int{1, 2, 0}, 2)}, exceptions: [][3]int{{0, 0, 1}}},
	} {
		w.wantOpened(t)
		if !isDataset(sealed(w.bytes())) {
			t.Errorf("P6: %q is a dataset", w.bytes())
		}
	}
}

// TestOpenTellsWhatTheBytesSay: no row has the default, and there are bundles
// that would be one.
func TestOpenTellsWhatTheBytesSay(t *testing.T) {
	d, e := granary.Open(sealed("GR\x02\x02n\x01\x00w\x00\x01\x01a\x02\x01\x01d\x0a\x01\x00d\x05\x00\x00"))
	if d == nil || e != api.OK {
		t.Fatalf("P6: Open = %v, %d", d, e)
	}
	wantBins(t, d, [][]int{{0, 1}, {0, 1}})
	wantBundles(t, d, []int{1}, []int{0})
	wantBounds(t, d)
}

func wantNoOpen(t *testing.T, what, s string) {
	t.Helper()
	if d, e := granary.Open(s); d != nil || e != api.ErrForm {
		t.Errorf("P6: %s: Open(%.200q) = %v, %d, want nil, ErrForm", what, s, d, e)
	}
}

// wantAllSpoilt changes one thing of a dataset that may be, so that it may not.
func wantAllSpoilt(t *testing.T, ways map[string]func(w *written)) {
	t.Helper()
	for what, change := range ways {
		w := mixed()
		change(&w)
		wantNoOpen(t, what, sealed(w.bytes()))
		if isDataset(sealed(w.bytes())) {
			t.Errorf("P6: %s: %q is no dataset", what, w.bytes())
		}
	}
}

func TestOpenFeaturesThatMayNotBe(t *testing.T) {
	wantAllSpoilt(t, map[string]func(w *written){
		"no features":                    func(w *written) { *w = written{rows: 0} },
		"no features, but a bundle":      func(w *written) { w.features = nil },
		"201 rows":                       func(w *written) { w.setRows(201) },
		"255 rows":                       func(w *written) { w.setRows(255) },
		"a letter that is none":          func(w *written) { w.features[0].letter = "x" },
		"a large letter":                 func(w *written) { w.features[0].letter = "N" },
		"17 bounds":                      func(w *written) { w.features[0] = ofNumbers(2, numbersUpTo(17)...) },
		"17 words":                       func(w *written) { w.features[1] = ofWords(0, append(lettersUpTo(16), "")...) },
		"bounds that are the same":       func(w *written) { w.features[0].bounds = []int{-7, 0, 0} },
		"bounds that fall":               func(w *written) { w.features[0].bounds = []int{0, -7, 300} },
		"bounds that rise without signs": func(w *written) { w.features[0].bounds = []int{0, 300, -7} },
		"a large letter in a word":       func(w *written) { w.features[1].words[1] = "A" },
		"a digit in a word":              func(w *written) { w.features[1].words[0] = "b0" },
		"a ` in a word":                  func(w *written) { w.features[1].words[0] = "`" },
		"a { in a word":                  func(w *written) { w.features[1].words[0] = "{" },
		"a ! in a word":                  func(w *written) { w.features[1].words[0] = "!" },
		"a tab in a word":                func(w *written) { w.features[1].words[0] = "\t" },
		"a carriage return in a word":    func(w *written) { w.features[1].words[0] = "\r" },
		"a nought in a word":             func(w *written) { w.features[1].words[0] = "\x00" },
		"a letter of two bytes":          func(w *written) { w.features[1].words[0] = "ä" },
		"a word of nine letters":         func(w *written) { w.features[1].words[0] = "abcdefghi" },
		"a word of 255 letters":          func(w *written) { w.features[1].words[0] = strings.Repeat("a", 255) },
		"words that are the same":        func(w *written) { w.features[1].words[0] = "a" },
		"words without letters twice":    func(w *written) { w.features[1].words = []string{"", ""} },
		"a default behind the bins":      func(w *written) { w.features[0].defaultBin = 5 },
		"a default of words behind them": func(w *written) { w.features[1].defaultBin = 4 },
		"a default far behind the bins":  func(w *written) { w.features[2].defaultBin = 255 },
	})
}

func TestOpenBundlesThatMayNotBe(t *testing.T) {
	wantAllSpoilt(t, map[string]func(w *written){
		"no bundles":                            func(w *written) { w.bundles = nil },
		"a feature in no bundle":                func(w *written) { w.bundles = w.bundles[:1] },
		"a feature in two bundles":              func(w *written) { w.bundles = append(w.bundles, w.bundles[1]) },
		"a feature in two bundles, one in none": func(w *written) { w.bundles[1].features = []int{3} },
		"a feature twice in a bundle":           func(w *written) { w.bundles[1].features = []int{2, 2} },
		"a feature that there is not":           func(w *written) { w.bundles[1].features = []int{4} },
		"one more that there is not":            func(w *written) { w.bundles[1].features = []int{2, 255} },
		"a bundle without features":             func(w *written) { w.bundles = append(w.bundles, together(nil, make([]int, 9)...)) },
		"a bundle without features ahead":       func(w *written) { w.bundles = append([]writtenBundle{together(nil, make([]int, 9)...)}, w.bundles...) },
	})
}

func TestOpenColumnsThatMayNotBe(t *testing.T) {
	wantAllSpoilt(t, map[string]func(w *written){
		"a column that is none":                func(w *written) { w.bundles[0].letter = "x" },
		"a dense column that should be sparse": func(w *written) { w.bundles[1].letter = "d" },
		"a sparse column that should be dense": func(w *written) { w.bundles[0].letter = "s" },
		"a default in a column":                func(w *written) { w.bundles[0].numbers[8] = 2 },
		"a default of a second feature there":  func(w *written) { w.bundles[0].numbers[8] = 5 },
		"a default of a third feature there":   func(w *written) { w.bundles[0].numbers[8] = 8 },
		"a default in a sparse column":         func(w *written) { w.bundles[1].numbers[7] = 2 },
		"a number behind all bins":             func(w *written) { w.bundles[0].numbers[8] = 12 },
		"a number far behind all bins":         func(w *written) { w.bundles[0].numbers[8] = 15 },
		"a number behind all in a sparse one":  func(w *written) { w.bundles[1].numbers[7] = 3 },
		"a great number in a sparse one":       func(w *written) { w.bundles[1].numbers[7] = 255 },
	})
}

func TestOpenExceptionsThatMayNotBe(t *testing.T) {
	wantAllSpoilt(t, map[string]func(w *written){
		"exceptions by features":               func(w *written) { w.exceptions = [][3]int{{1, 1, 3}, {1, 0, 4}} },
		"exceptions that fall by rows":         func(w *written) { w.exceptions = [][3]int{{2, 1, 1}, {1, 1, 3}} },
		"an exception twice":                   func(w *written) { w.exceptions = [][3]int{{1, 1, 3}, {1, 1, 3}} },
		"an exception twice, of two bins":      func(w *written) { w.exceptions = [][3]int{{1, 1, 2}, {1, 1, 3}} },
		"an exception behind the rows":         func(w *written) { w.exceptions = [][3]int{{9, 1, 3}} },
		"an exception far behind the rows":     func(w *written) { w.exceptions = [][3]int{{255, 1, 3}} },
		"an exception behind the features":     func(w *written) { w.exceptions = [][3]int{{1, 4, 0}} },
		"an exception far behind the features": func(w *written) { w.exceptions = [][3]int{{1, 255, 0}} },
		"an exception behind the bins":         func(w *written) { w.exceptions = [][3]int{{1, 1, 4}} },
		"an exception far behind the bins":     func(w *written) { w.exceptions = [][3]int{{1, 1, 255}} },
		"an exception that is a default":       func(w *written) { w.exceptions = [][3]int{{1, 0, 2}} },
		"an exception where the column is 0":   func(w *written) { w.exceptions = [][3]int{{0, 1, 1}} },
		"an exception of the column's feature": func(w *written) { w.exceptions = [][3]int{{2, 0, 1}} },
		"an exception of the same bin":         func(w *written) { w.exceptions = [][3]int{{2, 0, 0}} },
		"an exception of the first feature":    func(w *written) { w.exceptions = [][3]int{{1, 3, 0}} },
		"an exception of one ahead of it":      func(w *written) { w.exceptions = [][3]int{{5, 0, 1}} },
		"an exception of one alone":            func(w *written) { w.exceptions = [][3]int{{7, 2, 0}} },
		"an exception of one alone, 0 there":   func(w *written) { w.exceptions = [][3]int{{1, 2, 0}} },
	})
}

// setRows lays rows that are 0 behind those that there are.
func (w *written) setRows(rows int) {
	w.rows = rows
	for i := range w.bundles {
		w.bundles[i].numbers = append(w.bundles[i].numbers, make([]int, rows-len(w.bundles[i].numbers))...)
	}
}

func TestOpenManyFeatures(t *testing.T) {
	for n := 1; n <= 6; n++ {
		w := written{rows: 1}
		for f := range n {
			w.features = append(w.features, ofNumbers(0))
			w.bundles = append(w.bundles, alone(f, 2))
		}
		if n <= 4 {
			w.wantOpened(t)
			continue
		}
		wantNoOpen(t, "too many features", sealed(w.bytes()))
	}
}

// TestOpenManyRows has all that a column of so many rows needs.
func TestOpenManyRows(t *testing.T) {
	for rows := range 256 {
		w := written{rows: rows, features: []writtenFeature{ofNumbers(0)}, bundles: []writtenBundle{alone(0, make([]int, rows)...)}}
		if rows <= 200 {
			w.wantOpened(t)
			continue
		}
		wantNoOpen(t, "too many rows", sealed(w.bytes()))
	}
}

func TestOpenWideBundles(t *testing.T) {
	for last := range 17 {
		w := written{rows: 1, features: []writtenFeature{ofNumbers(1, numbersUpTo(16)...), ofNumbers(1, numbersUpTo(last)...), ofWords(0, lettersUpTo(8)...)}}
		w.bundles = []writtenBundle{together([]int{0, 1, 2}, 1)}
		if 18+last+2+10 <= 40 {
			w.wantOpened(t)
			continue
		}
		wantNoOpen(t, "a bundle that is too wide", sealed(w.bytes()))
		w.bundles = []writtenBundle{together([]int{0, 1}, 1), alone(2, 0)}
		w.wantOpened(t)
	}
}

// TestOpenSparseColumns writes the cells by hand: rows further, and number.
func TestOpenSparseColumns(t *testing.T) {
	head, end := "GR\x0c\x01n\x00\x01\x05\x00\x00\x00\x01\x01\x00s", "\x00\x00"
	for cells, ok := range map[string]bool{
		"\x00": true, "\x01\x01\x02": true, "\x01\x0c\x03": true, "\x02\x01\x02\x01\x02": true, "\x02\x01\x02\x0b\x02": true,
		"\x01\x00\x02": false, "\x01\x0d\x02": false, "\x01\xff\x02": false, "\x02\x01\x02\x0c\x02": false, "\x02\x01\x02\x00\x02": false, "\x02\x02\x02\xff\x02": false, "\x02\x02\x02\x00\x03": false,
		"\x01\x01\x00": false, "\x02\x01\x00\x01\x02": false, "\x02\x01\x02\x01\x00": false, "\x01\x01\x01": false, "\x01\x01\x04": false, "\x01\x01\x82": false,
		"\x00\x01\x02": false, "\x01\x01\x02\x01\x02": false, "\x02\x01\x02": false, "\x03\x01\x02\x01\x02\x01\x02": false,
	} {
		s := sealed(head + cells + end)
		d, e := granary.Open(s)
		if ok && (d == nil || e != api.OK || d.Bytes() != s) || !ok && (d != nil || e != api.ErrForm) {
			t.Errorf("P6: with the cells %q Open = %v, %d", cells, d, e)
		}
	}
}

// TestOpenBitsBehind turns each bit behind the values of a dense column.
func TestOpenBitsBehind(t *testing.T) {
	for rows := 1; rows <= 9; rows++ {
		w := written{rows: rows, features: []writtenFeature{ofNumbers(0, 1, 2)}, bundles: []writtenBundle{alone(0, slices.Repeat([]int{4}, rows)...)}}
		w.wantOpened(t)
		s := []byte(w.bytes())
		last := len(s) - 3
		for bit := (3*rows-1)%8 + 1; bit < 8; bit++ {
			s[last] ^= 1 << bit
			wantNoOpen(t, "bits behind the values", sealed(string(s)))
			s[last] ^= 1 << bit
		}
		s = slices.Insert(s, last+1, 0)
		wantNoOpen(t, "a byte behind the values", sealed(string(s)))
	}
}

func TestOpenWrongMarks(t *testing.T) {
	rest := mixed().bytes()[2:]
	for _, mark := range []string{"", "G", "R", "RG", "Gr", "gR", "GRR", "\x00\x00", "HR", "GS"} {
		wantNoOpen(t, "a wrong mark", sealed(mark+rest))
	}
}

func TestOpenCutBytes(t *testing.T) {
	for _, w := range []written{mixed(), {rows: 0, features: []writtenFeature{ofNumbers(0)}, bundles: []writtenBundle{alone(0)}}} {
		s := w.bytes()
		for n := range len(s) + 4 {
			wantNoOpen(t, "cut", sealed(s)[:n])
			if n > 0 {
				wantNoOpen(t, "cut at the front", sealed(s)[n:])
			}
			if n < len(s) {
				wantNoOpen(t, "cut, with a right check", sealed(s[:n]))
			}
		}
		for b := range 256 {
			more := string([]byte{byte(b)})
			wantNoOpen(t, "a byte more", sealed(s)+more)
			wantNoOpen(t, "a byte more, with a right check", sealed(s+more))
			wantNoOpen(t, "a byte more ahead", more+sealed(s))
		}
		wantNoOpen(t, "twice", sealed(s)+sealed(s))
		wantNoOpen(t, "sealed twice", sealed(sealed(s)))
	}
	wantNoOpen(t, "nothing", "")
	wantNoOpen(t, "a check alone", sealed(""))
}

func TestOpenWrongChecks(t *testing.T) {
	s := mixed().bytes()
	right := sealed(s)[len(s):]
	for place := range 4 {
		for b := range 256 {
			check := []byte(right)
			if check[place] == byte(b) {
				continue
			}
			check[place] = byte(b)
			wantNoOpen(t, "a wrong check", s+string(check))
		}
	}
	turned := []byte(right)
	slices.Reverse(turned)
	wantNoOpen(t, "the highest byte first", s+string(turned))
	wantNoOpen(t, "no check", s+"\x00\x00\x00\x00")
}

// TestOpenLongTexts would not end soon if all bytes were gone through.
func TestOpenLongTexts(t *testing.T) {
	s := sealed(mixed().bytes())
	for _, fill := range []string{"\x00", "\xff", "GR", "n", "w\x01\x01"} {
		long := strings.Repeat(fill, 1<<22)
		wantNoOpen(t, "a long text", long)
		wantNoOpen(t, "a long text behind a dataset", s+long)
		wantNoOpen(t, "a long text within a dataset", s[:20]+long+s[20:])
	}
}

// TestOpenOfBytes: of all kinds of tables (P11).
func TestOpenOfBytes(t *testing.T) {
	r := rand.New(rand.NewPCG(9, 10))
	for range 500 {
		table := someTable(r)
		d := read(t, table.config, table.text(r))
		opened, e := granary.Open(d.Bytes())
		if opened == nil || e != api.OK {
			t.Fatalf("P11: Open(%q) = %v, %d", d.Bytes(), opened, e)
		}
		sameDataset(t, opened, d, len(table.config.Features))
	}
}

// turn turns the bits of a window that the pattern says.
func turn(s string, from int, pattern uint32) string {
	b := []byte(s)
	for i := range 32 {
		if k := from + i; k < 8*len(b) && pattern>>i&1 == 1 {
			b[k/8] ^= 1 << (k % 8)
		}
	}
	return string(b)
}

func TestOpenTurnedBits(t *testing.T) {
	r := rand.New(rand.NewPCG(11, 12))
	for _, s := range []string{sealed(mixed().bytes()), read(t, richConfig(), rich).Bytes()} {
		for from := range 8 * len(s) {
			for n := 1; n <= 32; n++ {
				row := uint32(math.MaxUint32) >> (32 - n)
				wantTurned(t, s, from, row)
				wantTurned(t, s, from, r.Uint32()&row|1)
			}
		}
	}
}

func wantTurned(t *testing.T, s string, from int, pattern uint32) {
	t.Helper()
	if d, e := granary.Open(turn(s, from, pattern)); d != nil || e != api.ErrForm {
		t.Fatalf("P11: %q with the bits %b turned from %d on: Open = %v, %d, want nil, ErrForm", s, pattern, from, d, e)
	}
}

// spoil changes a byte, or takes one away, or lays one in.
func spoil(r *rand.Rand, s string) string {
	b := []byte(s)
	at := r.IntN(len(b))
	switch r.IntN(8) {
	case 0:
		b = slices.Delete(b, at, at+1)
	case 1:
		b = slices.Insert(b, at, byte(r.IntN(256)))
	case 2:
		b[at] = byte(r.IntN(256))
	case 3:
		b[at] ^= 1 << r.IntN(8)
	default:
		b[at] += byte(r.IntN(7) - 3)
	}
	return string(b)
}

// TestOpenAgainstTheWords opens datasets that may be, and such as are spoilt a
// little and have a right check.
func TestOpenAgainstTheWords(t *testing.T) {
	r := rand.New(rand.NewPCG(13, 14))
	may, mayNot := 0, 0
	for range 1500 {
		w := someWritten(r)
		d := w.wantOpened(t)
		s := w.bytes()
		for range 40 {
			bad := sealed(spoil(r, s))
			if isDataset(bad) {
				may++
			} else {
				mayNot++
			}
			wantVerdict(t, bad)
		}
		w.wantBundlesAndRefusals(t, d)
	}
	if may < 1000 || mayNot < 1000 {
		t.Errorf("of the spoilt datasets %d may be and %d may not", may, mayNot)
	}
}

func wantVerdict(t *testing.T, s string) {
	t.Helper()
	d, e := granary.Open(s)
	if isDataset(s) {
		if d == nil || e != api.OK || d.Bytes() != s {
			t.Fatalf("P6: Open(%q) = %v, %d, want a dataset, OK", s, d, e)
		}
		return
	}
	if d != nil || e != api.ErrForm {
		t.Fatalf("P6: Open(%q) = %v, %d, want nil, ErrForm", s, d, e)
	}
}

func FuzzOpen(f *testing.F) {
	r := rand.New(rand.NewPCG(15, 16))
	f.Add("")
	f.Add(mixed().bytes())
	for range 20 {
		f.Add(someWritten(r).bytes())
	}
	f.Fuzz(func(t *testing.T, s string) {
		wantVerdict(t, s)
		wantVerdict(t, sealed(s))
	})
}

// TestOpenedKeepsToItsMemory writes into all lists that come out.
func TestOpenedKeepsToItsMemory(t *testing.T) {
	w := mixed()
	d, other := w.wantOpened(t), w.wantOpened(t)
	for range 2 {
		bundles := d.Bundles()
		for _, list := range bundles {
			fill(list, -77)
		}
		fill(bundles, nil)
		for f := range w.features {
			bounds, dictionary, _ := d.Bounds(f)
			fill(bounds, -77)
			fill(dictionary, "scribble")
		}
	}
	w.wantBundlesAndRefusals(t, d)
	sameDataset(t, d, other, len(w.features))
	sameDataset(t, d, w.wantOpened(t), len(w.features))
}
