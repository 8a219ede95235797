package inspect_test

import (
	"math"
	"math/rand"
	"strings"
	"testing"

	"martensite/api"
	"martensite/inspect"
)

// P8.7, example 8: strings of all values
func TestFormat(t *testing.T) {
	for s, x := range map[string]api.InspectTraverse{
		"50 10 700 720;100 12 600 620": traverse(50, 10, 700, 720, 100, 12, 600, 620),
		"":                             noTraverse(),
		"0 0 0 0":                      traverse(0, 0, 0, 0),
		"-1 -2 5 4;3 3 3 -3":           traverse(-1, -2, 5, 4, 3, 3, 3, -3),
		"9223372036854775807 -9223372036854775808 1 12345678": traverse(math.MaxInt, math.MinInt, 1, 12345678),
	} {
		want(t, "FormatTraverse", inspect.FormatTraverse(x), api.OK, s, api.OK)
	}
	for s, x := range map[string]api.InspectTable{
		"400 40 41;600 55 56": table(400, 40, 41, 600, 55, 56),
		"":                    noTable(),
		"0 0 0":               table(0, 0, 0),
		"-1 5 4;3 3 -3":       table(-1, 5, 4, 3, 3, -3),
		"9223372036854775807 -9223372036854775808 1": table(math.MaxInt, math.MinInt, 1),
	} {
		want(t, "FormatTable", inspect.FormatTable(x), api.OK, s, api.OK)
	}
}

// P8.7, P8.14
func TestParseReversesFormat(t *testing.T) {
	reversed := func(x api.InspectTraverse) {
		y, e := inspect.ParseTraverse(inspect.FormatTraverse(x))
		want(t, "ParseTraverse", y, e, x, api.OK)
	}
	for _, x := range goodTraverses() {
		reversed(x)
	}
	traverses(1000, func(_ *rand.Rand, x api.InspectTraverse) { reversed(x) })
	reversedTable := func(x api.InspectTable) {
		y, e := inspect.ParseTable(inspect.FormatTable(x))
		want(t, "ParseTable", y, e, x, api.OK)
	}
	for _, x := range goodTables() {
		reversedTable(x)
	}
	tables(1000, func(_ *rand.Rand, x api.InspectTable) { reversedTable(x) })
}

// malformed are words that are no numbers.
func malformed() []string {
	return []string{"", "-1", "-0", "+1", "01", "00", "10000000", "0000001", "99999999999999999999", "1.", "0x1", "1_0", "a", "\xc2\xb2", "\xff", "1\t", "\n", "/", ":", " ", ";", " 1", "1 ", ";1", "1;", "1,1", "1 1"}
}

// P8.7: malformed strings of traverses
func TestMalformedTraverses(t *testing.T) {
	for _, word := range malformed() {
		for _, s := range []string{
			word + " 10 700 720;100 12 600 620",
			"50 10 " + word + " 720;100 12 600 620",
			"50 10 700 " + word + ";100 12 600 620",
			"50 10 700 720;" + word + " 12 600 620",
			"50 10 700 720;100 12 600 " + word,
		} {
			x, e := inspect.ParseTraverse(s)
			want(t, "ParseTraverse "+s, x, e, noTraverse(), api.ErrSyntax)
		}
	}
	for _, s := range []string{
		"", ";", " ", "50", "50 10", "50 10 700", "50 10 700 720 1", "50 10 700;100 12 600", "50 10 700 720;", ";50 10 700 720", "50 10 700 720;;100 12 600 620",
		"50  10 700 720;100 12 600 620", "50 10 700 720 ;100 12 600 620", "50 10 700 720; 100 12 600 620", "50 10 700 720,100 12 600 620", "50;10;700;720", "50 10 700 720;100 12 600",
		"50 10 700 720 100 12 600 620", "0 0 2001 1;x",
	} {
		x, e := inspect.ParseTraverse(s)
		want(t, "ParseTraverse "+s, x, e, noTraverse(), api.ErrSyntax)
	}
}

// P8.7: malformed strings of tables
func TestMalformedTables(t *testing.T) {
	for _, word := range malformed() {
		for _, s := range []string{
			word + " 40 41;600 55 56",
			"400 " + word + " 41;600 55 56",
			"400 40 " + word + ";600 55 56",
			"400 40 41;" + word + " 55 56",
			"400 40 41;600 55 " + word,
		} {
			x, e := inspect.ParseTable(s)
			want(t, "ParseTable "+s, x, e, noTable(), api.ErrSyntax)
		}
	}
	for _, s := range []string{
		"", ";", " ", "400", "400 40", "400 40 41 1", "400 40;600 55", "400 40 41;", ";400 40 41", "400 40 41;;600 55 56", "400  40 41;600 55 56", "400 40 41 ;600 55 56", "400 40 41; 600 55 56",
		"400 40 41,600 55 56", "400;40;41", "400 40 41 600 55 56", "2001 2 1;x",
	} {
		x, e := inspect.ParseTable(s)
		want(t, "ParseTable "+s, x, e, noTable(), api.ErrSyntax)
	}
}

// P8.7: the errors of the traverse and of the table, and numbers of seven digits
func TestErrorsOfParse(t *testing.T) {
	small := func(numbers ...int) bool {
		for _, n := range numbers {
			if n < 0 || n > 9999999 {
				return false
			}
		}
		return true
	}
	parsed := 0
	for _, x := range badTraverses() {
		isText := len(x.t.Indents) > 0
		for _, y := range x.t.Indents {
			isText = isText && small(y.Depth, y.Diagonal, y.Hardness.Lo, y.Hardness.Hi)
		}
		if isText {
			parsed++
			y, e := inspect.ParseTraverse(inspect.FormatTraverse(x.t))
			want(t, "ParseTraverse", y, e, noTraverse(), x.e)
		}
	}
	for _, x := range badTables() {
		isText := len(x.x.Knots) > 0
		for _, k := range x.x.Knots {
			isText = isText && small(k.From, k.To.Lo, k.To.Hi)
		}
		if isText {
			parsed++
			y, e := inspect.ParseTable(inspect.FormatTable(x.x))
			want(t, "ParseTable", y, e, noTable(), x.e)
		}
	}
	if parsed < 30 {
		t.Errorf("too few strings: %d", parsed)
	}
	x, e := inspect.ParseTraverse("9999999 1 1 1;1 1 1 1")
	want(t, "ParseTraverse", x, e, noTraverse(), api.ErrRange)
	y, e := inspect.ParseTable("1 1 1;2 1 9999999")
	want(t, "ParseTable", y, e, noTable(), api.ErrRange)
}

// P8.7: strings of MaxString bytes, and of one more
func TestLargeStrings(t *testing.T) {
	for length, f := range map[int]api.Errno{api.MaxString: api.ErrSyntax, api.MaxString + 1: api.ErrLarge} {
		x, e := inspect.ParseTraverse(strings.Repeat("x", length))
		want(t, "ParseTraverse", x, e, noTraverse(), f)
		y, e := inspect.ParseTable(strings.Repeat("x", length))
		want(t, "ParseTable", y, e, noTable(), f)
	}
	// These strings are not malformed: of 60000 bytes they have too many items, of 60001 they are too large themselves.
	x, e := inspect.ParseTraverse(strings.Repeat("1 1 1 1;", 7499) + "1 1 1 10")
	want(t, "ParseTraverse", x, e, noTraverse(), api.ErrLarge)
	y, e := inspect.ParseTable(strings.Repeat("1 1 1;", 9999) + "1 1 10")
	want(t, "ParseTable", y, e, noTable(), api.ErrLarge)
}
