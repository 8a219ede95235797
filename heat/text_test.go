package heat_test

import (
	"math"
	"math/rand"
	"strings"
	"testing"

	"martensite/api"
	"martensite/heat"
)

// exampleText is the string of the set-up of the examples.
const exampleText = "3 500;0 300,1000 800,3000 1300;300 0;300 0,1300 400"

// P3.7, example 8
func TestFormatSetup(t *testing.T) {
	for s, x := range map[string]api.HeatSetup{
		exampleText:              example(),
		"3 500;0 300,1000 1300;": plain(3, 500),
		"0 0;":                   {},
		"0 0;;;":                 {Laws: [][]api.HeatPoint{nil, {}}},
		"-7 -8;-1 -2;-3 -4,5 6;": {Cells: -7, Exchange: -8, Table: knots(-1, -2), Laws: [][]api.HeatPoint{law(-3, -4, 5, 6), nil}},
		"1 2;;99999999 0":        {Cells: 1, Exchange: 2, Laws: [][]api.HeatPoint{law(99999999, 0)}},
		"-9223372036854775808 9223372036854775807;": {Cells: math.MinInt, Exchange: math.MaxInt},
	} {
		want(t, "FormatSetup", heat.FormatSetup(x), api.OK, s, api.OK)
	}
}

// P3.7, P3.14
func TestParseReversesFormat(t *testing.T) {
	setups(func(random *rand.Rand, s api.HeatSetup) {
		x, e := heat.ParseSetup(heat.FormatSetup(s))
		want(t, "ParseSetup", x, e, s, api.OK)
	})
	for _, s := range goodSetups() {
		x, e := heat.ParseSetup(heat.FormatSetup(s))
		want(t, "ParseSetup", x, e, s, api.OK)
		want(t, "the laws", len(x.Laws), e, len(s.Laws), api.OK)
	}
	x, e := heat.ParseSetup(exampleText)
	want(t, "the example", x, e, example(), api.OK)
}

// P3.7: malformed strings
func TestSyntaxOfSetups(t *testing.T) {
	for _, s := range []string{
		"", " ", "3 500", "3 500,0 300", "0", "3;0 300,1 301", "3 500 1;0 300,1 301", "3  500;0 300,1 301", " 3 500;0 300,1 301", "3 500 ;0 300,1 301",
		";0 300,1 301", ";", "3,500;0 300,1 301", "3\t500;0 300,1 301", "3 500\n;0 300,1 301", "3 500:0 300,1 301",
		"3 500;0", "3 500;0 300,", "3 500;,0 300", "3 500;0 300,,1 301", "3 500;0 300, 1 301", "3 500;0 300 ,1 301", "3 500;0 300,1 301 2", "3 500;0  300,1 301",
		"3 500; ", "3 500;,", "3 500; 0 300,1 301", "3 500;0 300,1 301 ", "3 500;0 300,1",
		"3 500;0 300,1 301;300", "3 500;0 300,1 301; ", "3 500;0 300,1 301;;,", "3 500;0 300,1 301;300 0,", "3 500;0 300,1 301;300 0;400 0,x",
		"03 500;0 300,1 301", "3 0500;0 300,1 301", "3 500;00 300,1 301", "3 500;0 300,1 0301", "3 500;0 300,1 301;300 00",
		"+3 500;0 300,1 301", "-3 500;0 300,1 301", "3 -0;0 300,1 301", "3 500;-1 300,1 301", "3 500;0 300,1 301;300 +1", "3 500;0 300,1 301;-300 1",
		"10000000 500;0 300,1 301", "3 10000000;0 300,1 301", "3 500;10000000 300,1 301", "3 500;0 300,1 301;300 10000000", "3 500;0 300,1 301;00000300 0",
		"3 99999999999999999999;0 300,1 301", "a 500;0 300,1 301", "3 5a;0 300,1 301", "3 500;0x1 300,1 301", "3 5.0;0 300,1 301", "3 :;0 300,1 301", "3 /;0 300,1 301",
		"3 \xc2\xb2;0 300,1 301", "3 500;0 300,1 301\x00", "3 500;0 300,1 301;\xff", "13 501;x", "0 0;0 0,0 0;;;;;;x",
		strings.Repeat("1", api.MaxString), strings.Repeat(",", api.MaxString), strings.Repeat(";", api.MaxString),
	} {
		x, e := heat.ParseSetup(s)
		want(t, "ParseSetup "+s[:min(len(s), 40)], x, e, api.HeatSetup{}, api.ErrSyntax)
	}
}

// P3.7: the size of a string comes first, the error of the set-up last
func TestErrorsOfParsedSetups(t *testing.T) {
	long := "3 500;0 300,1 301" + strings.Repeat(";", api.MaxString-len("3 500;0 300,1 301"))
	for s, wanted := range map[string]api.Errno{
		strings.Repeat("1", api.MaxString+1): api.ErrLarge,
		long + ";":                           api.ErrLarge,
		long:                                 api.ErrLarge,
		"0" + long[1:]:                       api.ErrRange,
		long[:api.MaxString-1] + "x":         api.ErrSyntax,
		"0 500;0 300,1 301":                  api.ErrRange,
		"9999999 9999999;":                   api.ErrRange,
		"3 501;":                             api.ErrRange,
		"3 500;":                             api.ErrShape,
		"3 500;;":                            api.ErrShape,
		"3 500;0 300":                        api.ErrShape,
		"3 500;0 300;300 9999999":            api.ErrShape,
		"3 500;0 300,9999999 301":            api.ErrRange,
		"3 500;0 300,0 301":                  api.ErrOrder,
		"3 500;0 300,1 302":                  api.ErrBreak,
		"3 500;0 300,1 301;;;;;":             api.ErrLarge,
		"3 500;0 300,1 301;300 1;":           api.ErrClash,
		"3 500;0 300,1 301;;;;":              api.OK,
		"12 0;0 300,1 301;":                  api.OK,
		"12 0;0 300,1 301":                   api.OK,
		"1 0;0 200,1000000 3000":             api.OK,
	} {
		x, e := heat.ParseSetup(s)
		if e != wanted || e != api.OK && !same(x, api.HeatSetup{}) {
			t.Errorf("ParseSetup %s: %+v, %d, want %d", s[:min(len(s), 40)], x, e, wanted)
		}
	}
	for _, b := range badSetups() {
		s := heat.FormatSetup(b.s)
		if strings.Contains(s, "-") || longest(s) > 7 {
			continue
		}
		x, e := heat.ParseSetup(s)
		want(t, "ParseSetup "+s, x, e, api.HeatSetup{}, b.e)
	}
}

// longest is the length of the longest word of a string.
func longest(s string) int {
	n := 0
	for _, word := range strings.FieldsFunc(s, func(r rune) bool { return r < '0' || r > '9' }) {
		n = max(n, len(word))
	}
	return n
}
