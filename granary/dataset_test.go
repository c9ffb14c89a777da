package granary_test

import (
	"hash/crc32"
	"math"
	"reflect"
	"slices"
	"strconv"
	"strings"
	"testing"

	"granary/api"
	"granary/granary"
)

// allBins looks up all rows and features.
func allBins(t *testing.T, d *granary.Dataset, features int) [][]int {
	t.Helper()
	bins := make([][]int, d.Rows())
	for row := range bins {
		for f := range features {
			bin, e := d.Lookup(row, f)
			if e != api.OK {
				t.Fatalf("P5: Lookup(%d, %d) = %d, %d", row, f, bin, e)
			}
			bins[row] = append(bins[row], bin)
		}
	}
	return bins
}

func wantBins(t *testing.T, d *granary.Dataset, want [][]int) {
	t.Helper()
	if got := allBins(t, d, len(want[0])); !reflect.DeepEqual(got, want) {
		t.Errorf("P5: the bins are %v, want %v", got, want)
	}
}

func wantBundles(t *testing.T, d *granary.Dataset, want ...[]int) {
	t.Helper()
	if got := d.Bundles(); !reflect.DeepEqual(got, want) {
		t.Errorf("P5: the bundles are %v, want %v", got, want)
	}
}

func wantWords(t *testing.T, d *granary.Dataset, want ...string) {
	t.Helper()
	if none, got, e := d.Bounds(0); none != nil || !slices.Equal(got, want) || e != api.OK {
		t.Errorf("P5: the words are %v, %q, %d, want %q", none, got, e, want)
	}
}

func wantBounds(t *testing.T, d *granary.Dataset, want ...int) {
	t.Helper()
	if got, none, e := d.Bounds(0); none != nil || !slices.Equal(got, want) || e != api.OK {
		t.Errorf("P5: the bounds are %v, %q, %d, want %v", got, none, e, want)
	}
}

func wantBytes(t *testing.T, d *granary.Dataset, want string) {
	t.Helper()
	if got := d.Bytes(); got != sealed(want) {
		t.Errorf("P5: the bytes are %q, want %q", got, sealed(want))
	}
}

// sealed puts the check behind bytes.
func sealed(s string) string {
	n := crc32.ChecksumIEEE([]byte(s))
	return s + string([]byte{byte(n), byte(n >> 8), byte(n >> 16), byte(n >> 24)})
}

// sameDataset holds all that two datasets tell against each other.
func sameDataset(t *testing.T, got, want *granary.Dataset, features int) {
	t.Helper()
	if got.Rows() != want.Rows() || got.Bytes() != want.Bytes() {
		t.Errorf("P4: a dataset of %d rows, %q, want %d, %q", got.Rows(), got.Bytes(), want.Rows(), want.Bytes())
	}
	if a, b := allBins(t, got, features), allBins(t, want, features); !reflect.DeepEqual(a, b) {
		t.Errorf("P4: the bins are %v, want %v", a, b)
	}
	if a, b := got.Bundles(), want.Bundles(); !reflect.DeepEqual(a, b) {
		t.Errorf("P4: the bundles are %v, want %v", a, b)
	}
	for f := range features {
		a, v, _ := got.Bounds(f)
		b, w, _ := want.Bounds(f)
		if !slices.Equal(a, b) || !slices.Equal(v, w) {
			t.Errorf("P4: the bounds are %v, %q, want %v, %q", a, v, b, w)
		}
	}
}

// column writes rows of one feature, with the weight 1.
func column(fields ...string) string {
	text := ""
	for _, f := range fields {
		text += "1," + f + "\n"
	}
	return text
}

func TestDocumentExample(t *testing.T) {
	d := read(t, api.Config{Features: []api.Feature{{}}, Bins: 2, Size: 2}, "1,1\n1,2\n")
	if d.Rows() != 2 {
		t.Errorf("P5: Rows() = %d, want 2", d.Rows())
	}
	wantBounds(t, d, 1)
	wantBins(t, d, [][]int{{0}, {1}})
	wantBundles(t, d, []int{0})
	wantBytes(t, d, "GR\x02\x01n\x00\x01\x01\x00\x00\x00\x01\x01\x00d\x08\x00\x00")
}

func TestDatasetWithoutRows(t *testing.T) {
	c := api.Config{Features: []api.Feature{numbers(0), words(3), numbers(2), words(1)}, Bins: 16, Size: 32}
	d := read(t, c, "")
	wantBundles(t, d, []int{0, 1, 2, 3})
	for f := range 4 {
		list, dictionary, e := d.Bounds(f)
		if len(list) != 0 || len(dictionary) != 0 || e != api.OK {
			t.Errorf("P5: without rows Bounds(%d) = %v, %q, %d", f, list, dictionary, e)
		}
		if bin, e := d.Lookup(0, f); bin != 0 || e != api.ErrArg {
			t.Errorf("P5: without rows Lookup(0, %d) = %d, %d, want ErrArg", f, bin, e)
		}
	}
	wantBytes(t, d, "GR\x00\x04n\x00\x00w\x00\x00n\x00\x00w\x00\x00\x01\x04\x00\x01\x02\x03d\x00\x00")
}

func TestRowsAndFeaturesThatThereAreNot(t *testing.T) {
	d := read(t, richConfig(), rich)
	wrong := []int{math.MinInt, -2, -1, 256, math.MaxInt}
	for _, row := range append(wrong, 6, 7) {
		for _, f := range []int{0, 1, 2, -1, 3} {
			if bin, e := d.Lookup(row, f); bin != 0 || e != api.ErrArg {
				t.Errorf("P5: Lookup(%d, %d) = %d, %d, want 0, ErrArg", row, f, bin, e)
			}
		}
	}
	for _, f := range append(wrong, 3, 4) {
		for _, row := range []int{0, 5, -1, 6} {
			if bin, e := d.Lookup(row, f); bin != 0 || e != api.ErrArg {
				t.Errorf("P5: Lookup(%d, %d) = %d, %d, want 0, ErrArg", row, f, bin, e)
			}
		}
		if list, dictionary, e := d.Bounds(f); list != nil || dictionary != nil || e != api.ErrArg {
			t.Errorf("P5: Bounds(%d) = %v, %q, %d, want nil, nil, ErrArg", f, list, dictionary, e)
		}
	}
}

func TestBoundsOfFewNumbers(t *testing.T) {
	c := plain(4, numbers(0))
	all := column("7", "-3", "", "7", "0", "12")
	d := read(t, c, all)
	wantBounds(t, d, -3, 0, 7)
	wantBins(t, d, [][]int{{2}, {0}, {4}, {2}, {1}, {3}})
	d = read(t, c, column("", ""))
	wantBounds(t, d)
	wantBins(t, d, [][]int{{1}, {1}})
	d = read(t, c, column("5", "5", ""))
	wantBounds(t, d)
	wantBins(t, d, [][]int{{0}, {0}, {1}})
}

// TestBoundsOfManyNumbers has more different numbers than bins, but no more than
// Size: the summary is exact.
func TestBoundsOfManyNumbers(t *testing.T) {
	for _, c := range []struct {
		what string
		bins int
		text string
		want []int
	}{
		{"four times High is 4 8 12 16, the total 4", 2, column("4", "2", "3", "1"), []int{2}},
		{"three times High is 3 6 9 12, shares at 4 and 8", 3, column("1", "2", "3", "4"), []int{2, 3}},
		{"one entry for two shares", 4, "1,1\n90,2\n1,3\n1,4\n1,5\n", []int{2}},
		{"the last entry for all shares", 3, "1,1\n1,2\n1,3\n90,4\n", nil},
		{"the first entry for all shares", 3, "90,1\n1,2\n1,3\n1,4\n", []int{1}},
		{"the last entry for the last share", 3, "5,1\n1,2\n1,3\n9,4\n", []int{2}},
		{"a share that is met, and one that is missed by 1", 2, "2,1\n2,2\n1,3\n3,4\n", []int{2}},
		{"a share that is missed by 1", 2, "2,1\n2,2\n1,3\n4,4\n", []int{3}},
	} {
		d := read(t, plain(c.bins, numbers(0)), c.text)
		if got, _, _ := d.Bounds(0); !slices.Equal(got, c.want) {
			t.Errorf("P5: the bounds, %s: %v, want %v", c.what, got, c.want)
		}
	}
}

func TestDictionary(t *testing.T) {
	heavy := "2,c\n1,c\n3,b\n9,a\n2,d\n3,\"\"\n1,\n"
	d := read(t, plain(2, words(3)), heavy)
	wantWords(t, d, "a", "")
	wantBins(t, d, [][]int{{2}, {2}, {2}, {0}, {2}, {1}, {3}})
	d = read(t, plain(4, words(3)), heavy)
	wantWords(t, d, "a", "", "b", "c")
	wantBins(t, d, [][]int{{3}, {3}, {2}, {0}, {4}, {1}, {5}})
	wantWords(t, read(t, plain(4, words(4)), heavy), "a")
	wantWords(t, read(t, plain(4, words(9)), heavy), "a")
	d = read(t, plain(4, words(10)), heavy)
	wantWords(t, d)
	wantBins(t, d, [][]int{{0}, {0}, {0}, {0}, {0}, {0}, {1}})
	// Missing rows weigh nothing, and are no word.
	wantWords(t, read(t, plain(4, words(1)), "99,\n1,b\n"), "b")
	// Equally heavy words, by their bytes.
	d = read(t, plain(8, words(1)), column("b", "\"\n\"", "ab", "\" \"", "\",\"", "\"\"\"\"", "a", "\"\""))
	wantWords(t, d, "", "\n", " ", "\"", ",", "a", "ab", "b")
	// A word is the same with quotes and without.
	wantWords(t, read(t, plain(2, words(5)), "2,ab\n3,\"ab\"\n4,b\n"), "ab")
	// A word may weigh as much as Cut may be, and more.
	wantWords(t, read(t, plain(2, words(1000)), strings.Repeat("99,b\n", 11)+strings.Repeat("99,c\n", 10)), "b")
	wantWords(t, read(t, plain(2, words(990)), strings.Repeat("99,b\n", 11)+strings.Repeat("99,c\n", 10)), "b", "c")
}

// TestDefault is told by the bytes: the byte behind `n`.
func TestDefault(t *testing.T) {
	for _, c := range []struct {
		what, text string
		want       byte
	}{
		{"most rows", column("1", "2", "2", "3"), 1},
		{"equally many rows", column("3", "2", "2", "3", "1"), 1},
		{"rows, not weights", "99,3\n1,2\n1,2\n1,1\n", 1},
		{"missing", column("", "", "1", "2", "3"), 3},
		{"missing as often as another one", column("", "", "3", "3", "1", "2"), 2},
		{"all different", column("", "3", "1", "2"), 0},
	} {
		d := read(t, plain(3, numbers(0)), c.text)
		if got := d.Bytes()[5]; got != c.want {
			t.Errorf("P5: the default of %s is %d, want %d", c.what, got, c.want)
		}
	}
}

// outs writes rows of features that stand out where a letter says so: `.` is 0,
// others are 1, and ahead are so many rows in which all are 0.
func outs(zeros int, rows ...string) string {
	text := ""
	for range zeros {
		text += "1" + strings.Repeat(",0", len(rows[0])) + "\n"
	}
	for _, r := range rows {
		text += "1"
		for _, sign := range r {
			if sign == '.' {
				text += ",0"
			} else {
				text += ",1"
			}
		}
		text += "\n"
	}
	return text
}

func TestBundles(t *testing.T) {
	for _, c := range []struct {
		what   string
		budget int
		text   string
		want   [][]int
	}{
		{"no conflicts", 0, outs(3, "x..", ".x.", "..x"), [][]int{{0, 1, 2}}},
		{"by how many stand out", 0, outs(9, "x..", ".x.", ".x.", "..x", "..x", "..x"), [][]int{{2, 1, 0}}},
		{"equally many, in their order", 0, outs(9, "..x", "..x", ".x.", ".x.", "x.."), [][]int{{1, 2, 0}}},
		{"one conflict, no budget", 0, outs(9, "xx.", ".x."), [][]int{{1, 2}, {0}}},
		{"one conflict, budget 1", 1, outs(9, "xx.", ".x."), [][]int{{1, 0, 2}}},
		{"conflicts add up beyond the budget", 1, outs(9, "xx.", "x.x", "x.."), [][]int{{0, 1}, {2}}},
		{"conflicts add up to the budget", 2, outs(9, "xx.", "x.x", "x.."), [][]int{{0, 1, 2}}},
		{"a row with three counts once for each that is put to it", 1, outs(9, "xxx"), [][]int{{0, 1}, {2}}},
		{"a row with three, budget 2", 2, outs(9, "xxx"), [][]int{{0, 1, 2}}},
		{"the second bundle has room", 0, outs(9, "xx..", "xx..", "x...", "x.x.", "x..x"), [][]int{{0}, {1, 2, 3}}},
		{"the first bundle that has room", 0, outs(9, "xx..", "xx..", "x...", "..x."), [][]int{{0, 2, 3}, {1}}},
	} {
		features := make([]api.Feature, strings.Count(c.text[:strings.Index(c.text, "\n")], ","))
		d := read(t, api.Config{Features: features, Bins: 2, Size: 2, Budget: c.budget}, c.text)
		if got := d.Bundles(); !reflect.DeepEqual(got, c.want) {
			t.Errorf("P5: the bundles with %s are %v, want %v", c.what, got, c.want)
		}
	}
}

func TestBudget(t *testing.T) {
	for budget := 0; budget <= api.MaxBudget; budget++ {
		c := api.Config{Features: make([]api.Feature, 2), Bins: 2, Size: 2, Budget: budget}
		for conflicts, want := range map[int][][]int{budget: {{0, 1}}, budget + 1: {{0}, {1}}} {
			rows := append(slices.Repeat([]string{"xx"}, conflicts), "x.", ".x")
			d := read(t, c, outs(100, rows...))
			if got := d.Bundles(); !reflect.DeepEqual(got, want) {
				t.Errorf("P5: with the budget %d and %d conflicts the bundles are %v, want %v", budget, conflicts, got, want)
			}
		}
	}
}

// TestWide has features with so many bins that they may share a bundle, or not.
func TestWide(t *testing.T) {
	for _, c := range []struct {
		bins []int // of each feature: 2 at least
		want [][]int
	}{
		{[]int{10, 10, 10, 10}, [][]int{{0, 1, 2, 3}}},
		{[]int{11, 10, 10, 10}, [][]int{{0, 1, 2}, {3}}},
		{[]int{17, 17, 6}, [][]int{{0, 1, 2}}},
		{[]int{17, 17, 7}, [][]int{{0, 1}, {2}}},
		{[]int{17, 16, 8, 7}, [][]int{{0, 1, 3}, {2}}},
		{[]int{17, 17, 17, 17}, [][]int{{0, 1}, {2, 3}}},
	} {
		width, text := len(c.bins), ""
		for f, bins := range c.bins {
			// The number 0, missing, and bins - 2 others.
			for n := range bins - 2 {
				text += "1" + strings.Repeat(",0", f) + "," + strconv.Itoa(n+1) + strings.Repeat(",0", width-f-1) + "\n"
			}
		}
		text += strings.Repeat("1"+strings.Repeat(",0", width)+"\n", 60)
		d := read(t, api.Config{Features: make([]api.Feature, width), Bins: 16, Size: 32}, text)
		for f, bins := range c.bins {
			if list, _, _ := d.Bounds(f); len(list)+2 != bins {
				t.Fatalf("P10: feature %d has the bounds %v, want %d bins", f, list, bins)
			}
		}
		wantBundles(t, d, c.want...)
	}
}

// TestDenseAndSparse: a quarter of the rows is not fewer than a quarter.
func TestDenseAndSparse(t *testing.T) {
	zeros := func(n int) []string { return slices.Repeat([]string{"0"}, n) }
	head := func(rows int) string {
		return "GR" + string([]byte{byte(rows)}) + "\x01n\x00\x01\x00\x00\x00\x00\x01\x01\x00"
	}
	c := api.Config{Features: []api.Feature{{}}, Bins: 2, Size: 2}
	d := read(t, c, column(append(zeros(3), "1")...))
	wantBytes(t, d, head(4)+"d\x80\x00\x00")
	d = read(t, c, column(append(zeros(4), "1")...))
	wantBytes(t, d, head(5)+"s\x01\x05\x02\x00\x00")
	wantBins(t, d, [][]int{{0}, {0}, {0}, {0}, {1}})
	d = read(t, c, column(append([]string{"1", "", "0", "0"}, zeros(5)...)...))
	wantBytes(t, d, head(9)+"s\x02\x01\x02\x01\x03\x00\x00")
	wantBins(t, d, [][]int{{1}, {2}, {0}, {0}, {0}, {0}, {0}, {0}, {0}})
	d = read(t, c, column(append([]string{"1", "", "0", "0"}, zeros(4)...)...))
	wantBytes(t, d, head(8)+"d\x0e\x00\x00\x00")
	d = read(t, c, column("5", "5", "5"))
	wantBytes(t, d, "GR\x03\x01n\x00\x00\x01\x01\x00s\x00\x00\x00")
	// The last row of the most that there may be.
	d = read(t, c, column(append(zeros(199), "1")...))
	wantBytes(t, d, head(200)+"s\x01\xc8\x02\x00\x00")
	// The most rows that a sparse column may have, less one that it may not.
	text := column(append(zeros(151), slices.Repeat([]string{"1"}, 49)...)...)
	wantBytes(t, read(t, c, text), head(200)+"s\x31\x98\x02"+strings.Repeat("\x01\x02", 48)+"\x00\x00")
	text = column(append(zeros(150), slices.Repeat([]string{"1"}, 50)...)...)
	if got := read(t, c, text).Bytes()[14]; got != 'd' {
		t.Errorf("P5: a column with a quarter of the rows is %q", got)
	}
}

// TestColumnsAndExceptions has a feature with a bundle of its own, and two that
// share one, with a row in which both stand out.
func TestColumnsAndExceptions(t *testing.T) {
	c := api.Config{Features: []api.Feature{numbers(0), words(1), numbers(1)}, Bins: 2, Size: 2, Budget: 1}
	d := read(t, c, "1,0,a,0\n1,0,a,0.1\n1,1,b,0.1\n1,1,a,0.1\n1,,a,0\n1,0,a,0\n1,0,\"\n\",\n")
	wantBundles(t, d, []int{2}, []int{0, 1})
	wantBins(t, d, [][]int{{0, 0, 0}, {0, 0, 1}, {1, 2, 1}, {1, 0, 1}, {2, 0, 0}, {0, 0, 0}, {0, 1, 2}})
	// The columns say 0 2 2 2 0 0 3, in 2 bits, and 0 0 2 2 3 0 5, in 3 bits.
	wantBytes(t, d, "GR\x07\x03n\x00\x01\x00\x00\x00\x00w\x00\x02\x01a\x01\nn\x00\x01\x00\x00\x00\x00"+
		"\x02\x01\x02d\xa8\x30\x02\x00\x01d\x80\x34\x14\x01\x00\x02\x01\x02")
}

// TestExceptionsInOrder: by rows and then features rising, whatever the order in
// the bundle.
func TestExceptionsInOrder(t *testing.T) {
	c := api.Config{Features: make([]api.Feature, 4), Bins: 2, Size: 2, Budget: 20}
	d := read(t, c, outs(6, "xxxx", "..xx", "...x", "x..x", "..xx"))
	wantBundles(t, d, []int{3, 2, 0, 1})
	got := d.Bytes()
	from := strings.LastIndex(got, "\x06\x00\x06\x00\x01")
	if want := "\x06\x00" + "\x06\x00\x01\x06\x01\x01\x06\x02\x01" + "\x07\x02\x01" + "\x09\x00\x01" + "\x0a\x02\x01"; from < 0 || got[from:len(got)-4] != want {
		t.Errorf("P5: the bytes are %q, want the exceptions %q", got, want)
	}
	wantBins(t, d, [][]int{{0, 0, 0, 0}, {0, 0, 0, 0}, {0, 0, 0, 0}, {0, 0, 0, 0}, {0, 0, 0, 0}, {0, 0, 0, 0}, {1, 1, 1, 1}, {0, 0, 1, 1}, {0, 0, 0, 1}, {1, 0, 0, 1}, {0, 0, 1, 1}})
}

func TestSignedBounds(t *testing.T) {
	c := api.Config{Features: []api.Feature{numbers(3)}, Bins: 3, Size: 3}
	d := read(t, c, column("-99999.999", "-0.001", "1"))
	wantBounds(t, d, -99999999, -1)
	wantBytes(t, d, "GR\x03\x01n\x00\x02\x01\x1f\x0a\xfa\xff\xff\xff\xff\x01\x01\x00d\xd0\x00\x00\x00")
}
