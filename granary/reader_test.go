package granary_test

import (
	"slices"
	"strings"
	"testing"

	"granary/api"
	"granary/granary"
)

// plain is a configuration with so many bins and such features.
func plain(bins int, features ...api.Feature) api.Config {
	return api.Config{Features: features, Bins: bins, Size: max(bins, 8)}
}

func numbers(scale int) api.Feature { return api.Feature{Scale: scale} }

func words(cut int) api.Feature { return api.Feature{Word: true, Cut: cut} }

func newReader(t *testing.T, c api.Config) *granary.Intake {
	t.Helper()
	x, e := granary.Reader(c)
	if x == nil || e != api.OK {
		t.Fatalf("P3: Reader(%+v) = %v, %d", c, x, e)
	}
	return x
}

// feed feeds pieces that are not wrong.
func feed(t *testing.T, x *granary.Intake, pieces ...string) {
	t.Helper()
	for _, p := range pieces {
		if e, at := x.Feed(p); e != api.OK || at != 0 {
			t.Fatalf("P3: Feed(%.80q) of %.80q = %d, %d, want OK, 0", p, pieces, e, at)
		}
	}
}

func closed(t *testing.T, x *granary.Intake) *granary.Dataset {
	t.Helper()
	d, e, at := x.Close()
	if d == nil || e != api.OK || at != 0 {
		t.Fatalf("P3: Close() = %v, %d, %d, want a dataset, OK, 0", d, e, at)
	}
	return d
}

// read makes the dataset of a text that is not wrong.
func read(t *testing.T, c api.Config, pieces ...string) *granary.Dataset {
	t.Helper()
	x := newReader(t, c)
	feed(t, x, pieces...)
	return closed(t, x)
}

func wantFeed(t *testing.T, x *granary.Intake, piece string, want api.Errno, place int) {
	t.Helper()
	if e, at := x.Feed(piece); e != want || at != place {
		t.Errorf("P3: Feed(%.80q) = %d, %d, want %d, %d", piece, e, at, want, place)
	}
}

func wantNoClose(t *testing.T, x *granary.Intake, want api.Errno, place int) {
	t.Helper()
	if d, e, at := x.Close(); d != nil || e != want || at != place {
		t.Errorf("P3: Close() = %v, %d, %d, want nil, %d, %d", d, e, at, want, place)
	}
}

func TestReaderOfNoConfiguration(t *testing.T) {
	for _, bad := range []func(c *api.Config){
		func(c *api.Config) { *c = api.Config{} },
		func(c *api.Config) { c.Features = nil },
		func(c *api.Config) { c.Features = make([]api.Feature, 5) },
		func(c *api.Config) { c.Bins = 1 },
		func(c *api.Config) { c.Size = 3 },
		func(c *api.Config) { c.Budget = 21 },
		func(c *api.Config) { c.Features[0].Scale = 4 },
		func(c *api.Config) { c.Features[1].Cut = 0 },
	} {
		c := goodConfig()
		bad(&c)
		if x, e := granary.Reader(c); x != nil || e != api.ErrArg {
			t.Errorf("P3: Reader(%+v) = %v, %d, want nil, ErrArg", c, x, e)
		}
	}
}

// TestNumbers reads a field, and a greater number: of two numbers the lesser one
// is the bound.
func TestNumbers(t *testing.T) {
	for _, c := range []struct {
		scale int
		field string
		want  int
	}{
		{0, "0", 0}, {0, "-0", 0}, {0, "7", 7}, {0, "-7", -7}, {0, "10", 10}, {0, "123", 123}, {0, "1234", 1234},
		{0, "12345", 12345}, {0, "99998", 99998}, {0, "-99999", -99999}, {0, "-10000", -10000},
		{1, "3", 30}, {1, "-2.5", -25}, {1, "0", 0}, {1, "-0", 0}, {1, "0.0", 0}, {1, "-0.0", 0}, {1, "-0.1", -1}, {1, "12345.6", 123456},
		{2, "1.5", 150}, {2, "1.05", 105}, {2, "0.1", 10}, {2, "10", 1000}, {2, "-99999.99", -9999999},
		{3, "1", 1000}, {3, "1.2", 1200}, {3, "1.23", 1230}, {3, "1.234", 1234}, {3, "0.001", 1}, {3, "-0.010", -10}, {3, "99999.998", 99999998}, {3, "-99999.999", -99999999},
	} {
		greatest := strings.TrimSuffix("99999."+strings.Repeat("9", c.scale), ".")
		text := "1," + c.field + "\n1," + greatest + "\n"
		d := read(t, plain(2, numbers(c.scale)), text)
		list, none, e := d.Bounds(0)
		if !slices.Equal(list, []int{c.want}) || none != nil || e != api.OK {
			t.Errorf("P3: of %q with the scale %d the bounds are %v, %v, %d, want %d", text, c.scale, list, none, e, c.want)
		}
		wantBins(t, d, [][]int{{0}, {1}})
	}
}

func TestWords(t *testing.T) {
	for _, c := range []struct{ field, want string }{
		{`a`, `a`}, {`z`, `z`}, {`abcdefgh`, `abcdefgh`}, {`""`, ``}, {`"a"`, `a`}, {`"abcdefgh"`, `abcdefgh`}, {`" "`, ` `}, {`","`, `,`}, {"\"\n\"", "\n"},
		{`""""`, `"`}, {`""""""`, `""`}, {`"a""b"`, `a"b`}, {`"""a"`, `"a`}, {`"a"""`, `a"`}, {"\"a, \n\"\",z\"", "a, \n\",z"},
		{`"` + strings.Repeat(`""`, 8) + `"`, strings.Repeat(`"`, 8)}, {"\"\n\n\n\n\n\n\n\n\"", "\n\n\n\n\n\n\n\n"}, {`",,,,,,,,"`, `,,,,,,,,`}, {`"        "`, `        `},
	} {
		for _, features := range [][]api.Feature{{words(1)}, {words(1), words(1)}} {
			text := "1" + strings.Repeat(","+c.field, len(features)) + "\n"
			d := read(t, plain(2, features...), text)
			for f := range features {
				none, list, e := d.Bounds(f)
				if none != nil || !slices.Equal(list, []string{c.want}) || e != api.OK || d.Rows() != 1 {
					t.Errorf("P3: of %q the words are %v, %q, %d, want %q", text, none, list, e, c.want)
				}
			}
		}
	}
}

func TestMissingIsNoWordAndNoNumber(t *testing.T) {
	d := read(t, plain(4, numbers(1), words(1)), "5,,\n1,0,\"\"\n")
	if list, _, _ := d.Bounds(0); len(list) != 0 {
		t.Errorf("P3: the bounds of 0 and missing are %v", list)
	}
	if _, list, _ := d.Bounds(1); !slices.Equal(list, []string{""}) {
		t.Errorf("P3: the words of \"\" and missing are %q", list)
	}
	wantBins(t, d, [][]int{{1, 2}, {0, 0}})
}

// TestWeights has words that are heavy enough, or not, by their rows' weights.
func TestWeights(t *testing.T) {
	for weight, text := range map[int]string{1: "1", 9: "9", 10: "10", 55: "55", 99: "99"} {
		for cut, want := range map[int]int{weight: 1, weight + 1: 0} {
			d := read(t, plain(2, words(cut)), text+",a\n")
			if _, list, _ := d.Bounds(0); len(list) != want {
				t.Errorf("P3: the weight %q with the cut %d has the words %q", text, cut, list)
			}
		}
	}
}

func TestWrongPlaces(t *testing.T) {
	c := plain(2, numbers(1), words(1))
	row := "1,1,a\n"
	for _, w := range []struct {
		text  string
		place int
	}{
		{"0", 0}, {"00", 0}, {",", 0}, {"\n", 0}, {" ", 0}, {"-", 0}, {"a", 0}, {"\x00", 0}, {"\xff", 0}, {"é", 0},
		{"01", 0}, {"1;", 1}, {"1\n", 1}, {"1-", 1}, {"1.", 1}, {"100", 2}, {"999", 2}, {"10\n", 2}, {"10 ", 2},
		{"1,\n", 2}, {"1,a", 2}, {"1,\"", 2}, {"1,+1", 2}, {"1,.", 2}, {"1, ", 2},
		{"1,01", 3}, {"1,00", 3}, {"1,0\n", 3}, {"1,0-", 3}, {"1,1\n", 3}, {"1,1-", 3}, {"1,-,", 3}, {"1,--", 3}, {"1,-.", 3}, {"1,-a", 3}, {"1,-\n", 3},
		{"1,-01", 4}, {"1,-00", 4}, {"1,1..", 4}, {"1,1.,", 4}, {"1,0.\n", 4}, {"1,0.-", 4}, {"1,1.11", 5}, {"1,0.00", 5}, {"1,1.1.", 5}, {"1,1.1\n", 5},
		{"1,123456", 7}, {"1,-123456", 8}, {"1,100000", 7}, {"1,12345.67", 9},
		{"1,1,,", 4}, {"1,1,A", 4}, {"1,1,1", 4}, {"1,1, ", 4}, {"1,1,-", 4}, {"1,1,`", 4}, {"1,1,{", 4}, {"1,1,\r", 4}, {"1,,,", 3},
		{"1,1,a,", 5}, {"1,1,a\"", 5}, {"1,1,a ", 5}, {"1,1,aA", 5}, {"1,1,a\r", 5}, {"1,1,abcdefghi", 12}, {"1,1,abcdefgh\"", 12}, {"1,1,abcdefgh,", 12},
		{"1,1,\"A", 5}, {"1,1,\"1", 5}, {"1,1,\"\t", 5}, {"1,1,\"\r", 5}, {"1,1,\"\x00", 5}, {"1,1,\"é", 5}, {"1,1,\"`", 5}, {"1,1,\"{", 5}, {"1,1,\"abcdefghi", 13}, {"1,1,\"abcdefgh,", 13}, {"1,1,\"abcdefgh\n", 13}, {"1,1,\"abcdefgh ", 13},
		{"1,1,\"\",", 6}, {"1,1,\"\"a", 6}, {"1,1,\"\" ", 6}, {"1,1,\"a\"b", 7}, {"1,1,\"a\",", 7}, {"1,1,\"abcdefgh\"\"", 14}, {"1,1,\"abcdefg\"\"\"\"", 15}, {"1,1,\"\"\"\",", 8},
		{row + "0", 6}, {row + "\n", 6}, {row + row + "1,1,a;", 17}, {"1,1,\"\n\"\n0", 8}, {"12,,\n0", 5},
	} {
		for _, rest := range []string{"", "1,1,a\n", "\xff"} {
			x := newReader(t, c)
			feed(t, x, w.text[:w.place])
			wantFeed(t, x, w.text[w.place:]+rest, api.ErrForm, w.place)
			wantFeed(t, newReader(t, c), w.text+rest, api.ErrForm, w.place)
		}
	}
	wantFeed(t, newReader(t, plain(2, numbers(0))), "1,1.", api.ErrForm, 3)
	wantFeed(t, newReader(t, plain(2, numbers(0))), "1,0.", api.ErrForm, 3)
	wantFeed(t, newReader(t, plain(2, numbers(3))), "1,1.2345", api.ErrForm, 7)
	wantFeed(t, newReader(t, plain(2, words(1))), "1,,", api.ErrForm, 2)
}

func TestTooLong(t *testing.T) {
	c := plain(2, words(1), numbers(0))
	row := "1,\"\n\",5\n"
	full := strings.Repeat(row, api.MaxRows)
	if n := read(t, c, full).Rows(); n != api.MaxRows {
		t.Errorf("P3: %d rows are %d", api.MaxRows, n)
	}
	if n := read(t, c, full[len(row):]).Rows(); n != api.MaxRows-1 {
		t.Errorf("P3: %d rows are %d", api.MaxRows-1, n)
	}
	for b := range 256 {
		more := string([]byte{byte(b)})
		x := newReader(t, c)
		feed(t, x, full)
		wantFeed(t, x, more, api.ErrMany, len(full))
		wantFeed(t, newReader(t, c), full+more, api.ErrMany, len(full))
	}
	x := newReader(t, c)
	wantFeed(t, x, strings.Repeat(row, 10000), api.ErrMany, len(full))
	wantFeed(t, x, "", api.ErrMany, len(full))
	wantNoClose(t, x, api.ErrMany, len(full))
	wantFeed(t, newReader(t, c), full[:len(full)-1]+";\n", api.ErrForm, len(full)-1)
	wantFeed(t, newReader(t, c), full[:len(full)-len(row)]+"0", api.ErrForm, len(full)-len(row))
}

func TestNoRows(t *testing.T) {
	for _, pieces := range [][]string{nil, {""}, {"", ""}} {
		d := read(t, goodConfig(), pieces...)
		if d.Rows() != 0 {
			t.Errorf("P3: no rows are %d", d.Rows())
		}
	}
}

// TestReaderThatIsClosed closes one with a dataset, and ones with an error.
func TestReaderThatIsClosed(t *testing.T) {
	c := plain(2, numbers(1), words(1))
	for _, text := range []string{"", "1,1,a\n", "1", "99", "1,", "1,-", "1,0", "1,1.", "1,1.1", "1,1,", "1,1,a", "1,1,\"", "1,1,\"a\n", "1,1,\"a\"", "1,1,a\n1", "1,1,a\n1,1,a"} {
		x := newReader(t, c)
		feed(t, x, text)
		if text == "" || strings.HasSuffix(text, "a\n") && !strings.Contains(text, `"`) {
			closed(t, x)
		} else {
			wantNoClose(t, x, api.ErrForm, len(text))
		}
		for _, piece := range []string{"", "1,1,a\n", "x"} {
			wantFeed(t, x, piece, api.ErrArg, 0)
			wantNoClose(t, x, api.ErrArg, 0)
		}
	}
}

// TestReaderThatHasToldAnError: Close does not close it.
func TestReaderThatHasToldAnError(t *testing.T) {
	x := newReader(t, plain(2, numbers(1)))
	feed(t, x, "1,1\n", "2,")
	wantFeed(t, x, "34x", api.ErrForm, 8)
	for range 3 {
		for _, piece := range []string{"", "\n", "0", "1,1\n"} {
			wantFeed(t, x, piece, api.ErrForm, 8)
		}
		wantNoClose(t, x, api.ErrForm, 8)
	}
}

const rich = "1,-2.5,abc,\n99,,\"a,\n\"\"b\",0\n10,0,\"\",-0\n7,12345.6,,99999\n3,-0.1,abcdefgh,\n1,30,\"\"\"\"\"\"\"\",1\n"

func richConfig() api.Config {
	return api.Config{Features: []api.Feature{numbers(1), words(1), numbers(0)}, Bins: 3, Size: 4, Budget: 3}
}

// TestPieces cuts a text at every place, and at every two places.
func TestPieces(t *testing.T) {
	c := richConfig()
	want := read(t, c, rich)
	if want.Rows() != 6 {
		t.Fatalf("P3: the text has %d rows, want 6", want.Rows())
	}
	sameDataset(t, read(t, c, strings.Split(rich, "")...), want, 3)
	for i := range len(rich) + 1 {
		for j := i; j <= len(rich); j++ {
			d := read(t, c, rich[:i], rich[i:j], rich[j:])
			if d.Bytes() != want.Bytes() {
				t.Fatalf("P4: cut at %d and %d: the bytes are %q, want %q", i, j, d.Bytes(), want.Bytes())
			}
		}
		sameDataset(t, read(t, c, rich[:i], rich[i:]), want, 3)
	}
}

// TestTextsThatEnd ends a text at every place: within a row it is wrong there.
func TestTextsThatEnd(t *testing.T) {
	whole := map[int]int{0: 0}
	for i, row := range []string{"1,-2.5,abc,\n", "99,,\"a,\n\"\"b\",0\n", "10,0,\"\",-0\n", "7,12345.6,,99999\n", "3,-0.1,abcdefgh,\n", "1,30,\"\"\"\"\"\"\"\",1\n"} {
		whole[strings.Index(rich, row)+len(row)] = i + 1
	}
	for end := range len(rich) + 1 {
		for cut := range end + 1 {
			x := newReader(t, richConfig())
			feed(t, x, rich[:cut], rich[cut:end])
			rows, ok := whole[end]
			if !ok {
				wantNoClose(t, x, api.ErrForm, end)
			} else if d := closed(t, x); d.Rows() != rows {
				t.Errorf("P3: %q has %d rows, want %d", rich[:end], d.Rows(), rows)
			}
		}
	}
}

// TestPiecesOfWrongTexts: an error and its place don't hang on the pieces.
func TestPiecesOfWrongTexts(t *testing.T) {
	for _, at := range []int{0, 1, 2, 5, 12, 20, 30, 44, len(rich)} {
		text := rich[:at] + "?" + rich[at:]
		for cut := range len(text) + 1 {
			x := newReader(t, richConfig())
			if cut <= at {
				wantFeed(t, x, text[:cut], api.OK, 0)
			} else {
				wantFeed(t, x, text[:cut], api.ErrForm, at)
			}
			wantFeed(t, x, text[cut:], api.ErrForm, at)
			wantNoClose(t, x, api.ErrForm, at)
		}
	}
}
