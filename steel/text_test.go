package steel_test

import (
	"math"
	"math/rand"
	"strings"
	"testing"

	"martensite/api"
	"martensite/steel"
)

// exampleText is the string of the rules of the examples.
const exampleText = "1000 200000 400000 10;1200 500000 600000 30/600 0 0 0 0;800 200000 500000 50000 100000/300 900000 950000;500 100000 300000/400 5/200 250 400 800"

// P4.6: strings of all rules, also of wrong ones
func TestFormatRules(t *testing.T) {
	for s, r := range map[string]api.SteelRules{
		exampleText:    example(),
		"////0 0 0 0":  {},
		"////-1 2 3 0": {Hard: [4]int{-1, 2, 3, 0}, Heats: []api.SteelHeat{}},
		"-1 -2 -3 -4/-5 -6 -7 -8 -9;0 0 0 0 0/1 2 3/4 5;6 7/8 9 10 11": {
			Heats:   []api.SteelHeat{heat(-1, -2, -3, -4)},
			Cools:   []api.SteelCool{cool(-5, span(-6, -7), span(-8, -9)), {}},
			Colds:   []api.SteelCold{cold(1, 2, 3)},
			Tempers: []api.SteelTemper{temper(4, 5), temper(6, 7)},
			Hard:    [4]int{8, 9, 10, 11},
		},
		"///9223372036854775807 -9223372036854775808/0 0 0 0": {Tempers: []api.SteelTemper{temper(math.MaxInt, math.MinInt)}},
	} {
		want(t, "FormatRules", steel.FormatRules(r), api.OK, s, api.OK)
	}
}

// P4.6, example 8
func TestFormatState(t *testing.T) {
	for s, x := range map[string]api.SteelState{
		"1000000 0 0 0 0 0 0":      parent(),
		"0 0 0 0 0 0 0":            {},
		"1 2 3 4 5 6 7":            {Parent: 1, Austenite: 2, Bainite: 3, Martensite: 4, Wait: 5, Grain: 6, Temper: 7},
		"-1 0 0 0 0 -10000000 123": {Parent: -1, Grain: -10000000, Temper: 123},
	} {
		want(t, "FormatState", steel.FormatState(x), api.OK, s, api.OK)
	}
}

// P4.14
func TestParseReversesFormat(t *testing.T) {
	rulesOf(t, func(random *rand.Rand, r api.SteelRules) {
		x, e := steel.ParseRules(steel.FormatRules(r))
		want(t, "ParseRules", x, e, r, api.OK)
		s := someState(random)
		y, e := steel.ParseState(steel.FormatState(s))
		want(t, "ParseState", y, e, s, api.OK)
	})
	for _, r := range goodRules() {
		x, e := steel.ParseRules(steel.FormatRules(r))
		want(t, "ParseRules", x, e, r, api.OK)
	}
	r, e := steel.ParseRules(exampleText)
	want(t, "the example", r, e, example(), api.OK)
}

// P4.6: malformed strings of rules
func TestSyntaxOfRules(t *testing.T) {
	for _, s := range []string{
		"", " ", "/", "////", "///0 0 0 0", "/////0 0 0 0", "0 0 0 0", "////0 0 0 0/", "////0 0 0 0;0 0 0 0", "//// 0 0 0 0", "////0 0 0 0 ", "////0 0 0 0\n",
		"////0 0 0", "////0 0 0 0 0", "////0  0 0 0", "////0,0 0 0", "////0\t0 0 0", "////00 0 0 0", "////0 01 0 0", "////+1 1 1 1", "////-1 1 1 1", "////0 -0 0 0",
		"////0 0 0 10000000", "////0 0 0 00000000", "////0 0 0 x", "////0 0 0 \xff", "////0 0 0 1.0", "////0 0 0 :", "////0 0 0 \xd9\xa1",
		" ////0 0 0 0", "/ ///0 0 0 0", "// //0 0 0 0", "/// /0 0 0 0", ";////0 0 0 0", "/;///0 0 0 0",
		"1 0 0////0 0 0 0", "1 0 0 0 0////0 0 0 0", "1 0 0 0;////0 0 0 0", ";1 0 0 0////0 0 0 0", "1 0 0 0;;2 0 0 0////0 0 0 0", "1 0 0 0; 2 0 0 0////0 0 0 0", "1 0 0 0 ;2 0 0 0////0 0 0 0",
		"1 0 0 -1////0 0 0 0", "1 0 0 10000000////0 0 0 0", "01 0 0 0////0 0 0 0", "1,0,0,0////0 0 0 0",
		"/1 0 0 0///0 0 0 0", "/1 0 0 0 0 0///0 0 0 0", "/1 0 0 0 0;///0 0 0 0", "/1 0 0 0 00///0 0 0 0",
		"//1 0//0 0 0 0", "//1 0 0 0//0 0 0 0", "//1 0 0;;//0 0 0 0", "//1 0  0//0 0 0 0",
		"///1/0 0 0 0", "///1 0 0/0 0 0 0", "///1 0;/0 0 0 0", "///1 x/0 0 0 0",
		// A malformed part beside an error of the rules.
		"0 0 0 0////x", "1 2 1 0////9 8 7", "0 0 0 0;0 0 0 0;0 0 0 0;0 0 0 0;0 0 0 0;0 0 0 0;0 0 0 0;0 0 0 0;0 0 0 0/x///0 0 0 0",
		strings.Repeat("1", api.MaxString), strings.Repeat("/", api.MaxString), strings.Repeat(";", api.MaxString), strings.Repeat(" ", api.MaxString),
	} {
		r, e := steel.ParseRules(s)
		want(t, "ParseRules "+s[:min(len(s), 40)], r, e, api.SteelRules{}, api.ErrSyntax)
	}
}

// P4.6: the size of a string comes first, the error of the rules last
func TestErrorsOfParsedRules(t *testing.T) {
	knots := strings.Repeat("0 0;", 10000)
	long := "///" + knots + "0 0/0 0 0 0"
	most := long[:3] + strings.Repeat("0 0;", (api.MaxString-len("///0 0/0 0 0 0"))/4) + "0 0/0 0 0 0"
	for s, wanted := range map[string]api.Errno{
		strings.Repeat("1", api.MaxString+1): api.ErrLarge,
		strings.Repeat("x", 1000000):         api.ErrLarge,
		long:                                 api.ErrLarge,
		most:                                 api.ErrLarge,
		most + "   ":                         api.ErrLarge,
		"0 0 0 0////0 0 0 0":                 api.ErrRange,
		"3001 0 0 0////0 0 0 0":              api.ErrRange,
		"9999999 9999999 0 0////0 0 0 0":     api.ErrRange,
		"1 2 1 0////0 0 0 0":                 api.ErrForm,
		"1 0 0 0;1 0 0 0////0 0 0 0":         api.ErrOrder,
		"5 0 0 0/5 0 0 0 0///0 0 0 0":        api.ErrClash,
		"////0 0 0 2001":                     api.ErrRange,
		"////1 0 0 0":                        api.ErrOrder,
		"////0 0 0 0":                        api.OK,
		"5 0 0 0/4 0 0 0 0///0 0 0 2000":     api.OK,
		"3000 0 1000000 1000000//1 0 0/2999 1000000/0 0 0 0": api.OK,
	} {
		r, e := steel.ParseRules(s)
		if e != wanted || e != api.OK && !same(r, api.SteelRules{}) {
			t.Errorf("ParseRules %s: %+v, %d, want %d", s[:min(len(s), 40)], r, e, wanted)
		}
	}
	for _, b := range badRules() {
		s := steel.FormatRules(b.r)
		if strings.Contains(s, "-") || longest(s) > 7 {
			continue
		}
		r, e := steel.ParseRules(s)
		want(t, "ParseRules "+s, r, e, api.SteelRules{}, b.e)
	}
}

// longest is the length of the longest word of a string.
func longest(s string) int {
	n := 0
	for _, word := range strings.FieldsFunc(s, func(r rune) bool { return r < '0' || r > '9' }) {
		n = max(n, len(word))
	}
	return n
}

// P4.6
func TestParseState(t *testing.T) {
	for s, wanted := range map[string]api.SteelState{
		"1000000 0 0 0 0 0 0":                  parent(),
		"1 2 3 999994 5 6 7":                   {Parent: 1, Austenite: 2, Bainite: 3, Martensite: 999994, Wait: 5, Grain: 6, Temper: 7},
		"0 0 1000000 0 1000000 100000 1000000": {Bainite: whole, Wait: whole, Grain: 100000, Temper: 1000000},
	} {
		x, e := steel.ParseState(s)
		want(t, "ParseState", x, e, wanted, api.OK)
	}
	for s, wanted := range map[string]api.Errno{
		"":                              api.ErrSyntax,
		"1000000":                       api.ErrSyntax,
		"1000000 0 0 0 0 0":             api.ErrSyntax,
		"1000000 0 0 0 0 0 0 0":         api.ErrSyntax,
		"1000000 0 0 0 0 0 0 ":          api.ErrSyntax,
		" 1000000 0 0 0 0 0 0":          api.ErrSyntax,
		"1000000  0 0 0 0 0 0":          api.ErrSyntax,
		"1000000,0,0,0,0,0,0":           api.ErrSyntax,
		"+1000000 0 0 0 0 0 0":          api.ErrSyntax,
		"01000000 0 0 0 0 0 0":          api.ErrSyntax,
		"1000000 00 0 0 0 0 0":          api.ErrSyntax,
		"1000000 -0 0 0 0 0 0":          api.ErrSyntax,
		"1000000 0 0 0 0 0 -1":          api.ErrSyntax,
		"10000000 0 0 0 0 0 0":          api.ErrSyntax,
		"1000000 0 0 0 0 0 10000000":    api.ErrSyntax,
		"9999999 0 0 0 0 0 x":           api.ErrSyntax,
		"1000000 0 0 0 0 0 0\n":         api.ErrSyntax,
		strings.Repeat("0 ", 100000):    api.ErrSyntax,
		strings.Repeat("1", 1000000):    api.ErrSyntax,
		"1000001 0 0 0 0 0 0":           api.ErrRange,
		"0 0 0 0 0 9999999 0":           api.ErrRange,
		"1000000 0 0 0 0 100001 0":      api.ErrRange,
		"0 0 0 0 0 0 0":                 api.ErrForm,
		"1000000 0 0 1 0 0 0":           api.ErrForm,
		"999999 0 0 0 1000000 100000 0": api.ErrForm,
	} {
		x, e := steel.ParseState(s)
		want(t, "ParseState "+s[:min(len(s), 40)], x, e, api.SteelState{}, wanted)
	}
}

// R3: results share no memory
func TestMemoryOfRules(t *testing.T) {
	a, _ := steel.ParseRules(exampleText)
	b, _ := steel.ParseRules(exampleText)
	a.Heats[0].Kelvin, a.Cools[0].Kelvin, a.Colds[0].Kelvin, a.Tempers[0].Kelvin = 0, 0, 0, 0
	want(t, "the other rules", b, api.OK, example(), api.OK)
}
