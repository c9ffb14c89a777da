package granary_test

import (
	"regexp"
	"strings"
	"testing"

	"granary/api"
	"granary/granary"
)

// These tests hold a reader against a grammar: a text is the beginning of one,
// if it is one with something behind it.

var fieldForms = map[api.Feature]string{
	numbers(0): `(-?(0|[1-9][0-9]{0,4}))?`,
	numbers(1): `(-?(0|[1-9][0-9]{0,4})(\.[0-9])?)?`,
	numbers(2): `(-?(0|[1-9][0-9]{0,4})(\.[0-9]{1,2})?)?`,
	numbers(3): `(-?(0|[1-9][0-9]{0,4})(\.[0-9]{1,3})?)?`,
	words(1):   `([a-z]{1,8}|"([a-z ,\n]|""){0,8}")?`,
}

func rowForm(features []api.Feature) *regexp.Regexp {
	form := `^[1-9][0-9]?`
	for _, f := range features {
		form += "," + fieldForms[f]
	}
	r := regexp.MustCompile(form + `\n`)
	r.Longest()
	return r
}

func isText(row *regexp.Regexp, s string) bool {
	for s != "" {
		r := row.FindString(s)
		if r == "" {
			return false
		}
		s = s[len(r):]
	}
	return true
}

func isBeginning(row *regexp.Regexp, s string) bool {
	if isText(row, s) {
		return true
	}
	for _, rest := range []string{"", "1", `"`} {
		for commas := range api.MaxFeatures + 1 {
			if isText(row, s+rest+strings.Repeat(",", commas)+"\n") {
				return true
			}
		}
	}
	return false
}

// tryBytes feeds each byte behind a beginning.
func tryBytes(t *testing.T, c api.Config, row *regexp.Regexp, s string) {
	t.Helper()
	for b := range 256 {
		more := s + string([]byte{byte(b)})
		x := newReader(t, c)
		feed(t, x, s)
		e, at := x.Feed(more[len(s):])
		if isBeginning(row, more) {
			if e != api.OK || at != 0 {
				t.Fatalf("P3: Feed(%q) = %d, %d, want OK, 0", more, e, at)
			}
		} else if e != api.ErrForm || at != len(s) {
			t.Fatalf("P3: Feed(%q) = %d, %d, want ErrForm, %d", more, e, at, len(s))
		}
	}
}

// tryClose ends a text behind a beginning.
func tryClose(t *testing.T, c api.Config, row *regexp.Regexp, s string) {
	t.Helper()
	x := newReader(t, c)
	feed(t, x, s)
	if isText(row, s) {
		closed(t, x)
	} else {
		wantNoClose(t, x, api.ErrForm, len(s))
	}
}

func tryFrom(t *testing.T, c api.Config, row *regexp.Regexp, s, signs string, deep int) {
	tryBytes(t, c, row, s)
	tryClose(t, c, row, s)
	for _, b := range signs {
		if more := s + string(b); deep > 0 && isBeginning(row, more) {
			tryFrom(t, c, row, more, signs, deep-1)
		}
	}
}

func TestReaderAgainstTheGrammar(t *testing.T) {
	for _, c := range []struct {
		features []api.Feature
		start    string
		signs    string
		deep     int
	}{
		{[]api.Feature{numbers(0)}, "", "01,-.\n", 4},
		{[]api.Feature{words(1)}, "1", "a\",\n", 4},
		{[]api.Feature{numbers(1), numbers(0)}, "2,", "07,-.\n", 3},
		{[]api.Feature{numbers(2), words(1)}, "2,1", ".5,a\"\n", 3},
		{[]api.Feature{numbers(3), words(1)}, "2,12345", ".5,a\"\n", 4},
		{[]api.Feature{words(1), words(1)}, "2,\"aaaaaaa", "a\",\n", 4},
		{[]api.Feature{words(1), numbers(0), words(1)}, "2,aaaaaa", "a0\",\n", 4},
		{[]api.Feature{words(1), words(1), words(1), numbers(1)}, "2,,\"\",b", ",0\n.", 4},
		{[]api.Feature{numbers(0)}, "2,123", "4,\n", 3},
		{[]api.Feature{numbers(0)}, "2,-123", "4,\n", 3},
	} {
		tryFrom(t, plain(2, c.features...), rowForm(c.features), c.start, c.signs, c.deep)
	}
}

func FuzzReader(f *testing.F) {
	f.Add(rich, 5)
	f.Add("1,1,\"a\"\"", 3)
	c := richConfig()
	row := rowForm(c.Features)
	f.Fuzz(func(t *testing.T, s string, cut int) {
		cut = min(max(cut, 0), len(s))
		x, _ := granary.Reader(c)
		e, at := x.Feed(s[:cut])
		if e == api.OK {
			e, at = x.Feed(s[cut:])
		}
		switch e {
		case api.OK:
			if at != 0 || !isBeginning(row, s) {
				t.Errorf("P3: Feed(%q) = OK, %d", s, at)
			}
		case api.ErrForm:
			if !isBeginning(row, s[:at]) || isBeginning(row, s[:at+1]) {
				t.Errorf("P3: Feed(%q) = ErrForm, %d", s, at)
			}
		}
	})
}
