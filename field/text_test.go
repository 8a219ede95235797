package field_test

import (
	"math"
	"strings"
	"testing"

	"martensite/api"
	"martensite/field"
)

// P2.7, example 8
func TestFormatLadder(t *testing.T) {
	for s, x := range map[string]api.FieldLadder{
		"2;1 2 1;1 1 1":               example(),
		"20;4 4 4;4 4 4;4 4 4;4 4 4":  largest(),
		"0":                           {},
		"-7":                          {Turns: -7, Shells: []api.FieldShell{}},
		"1000;-1 0 1234":              {Turns: 1000, Shells: []api.FieldShell{shell(-1, 0, 1234)}},
		"1;-9223372036854775808 1 -2": {Turns: 1, Shells: []api.FieldShell{shell(math.MinInt, 1, -2)}},
	} {
		want(t, "FormatLadder", field.FormatLadder(x), api.OK, s, api.OK)
	}
}

// P2.7, P2.14
func TestParseReversesFormat(t *testing.T) {
	ladders(func(x api.FieldLadder, d api.FieldDrive) {
		y, e := field.ParseLadder(field.FormatLadder(x))
		want(t, "ParseLadder", y, e, x, api.OK)
	})
	x, e := field.ParseLadder("2;1 2 1;1 1 1")
	want(t, "the example", x, e, example(), api.OK)
}

// P2.7: malformed strings
func TestSyntaxOfLadders(t *testing.T) {
	for _, s := range []string{
		"", " ", ";", ";1 1 1", "1;", "1;;1 1 1", "1;1 1 1;", ";1;1 1 1", "1 1 1", "1,1 1 1", "1:1 1 1",
		"1;1 1", "1;1 1 1 1", "1;1  1 1", "1; 1 1 1", "1;1 1 1 ", " 1;1 1 1", "1 ;1 1 1", "1;1\t1 1", "1;1 1 1\n", "1\n;1 1 1",
		"01;1 1 1", "00;1 1 1", "1;01 1 1", "1;1 01 1", "1;1 1 01", "1;1 1 00", "+1;1 1 1", "-1;1 1 1", "-0;1 1 1", "1;+1 1 1", "1;1 -1 1", "1;1 1 -0",
		"1000;1 1 1", "0001;1 1 1", "1;1000 1 1", "1;1 1000 1", "1;1 1 1000", "1;1 1 99999999999999999999",
		"a;1 1 1", "1;a 1 1", "1;1 1 1a", "1;1 1 0x1", "1;1 1 1.", "1;1 1 :", "1;1 1 /", "1;1 1 \xc2\xb2", "\x00;1 1 1", "1;1 1 \xff",
		"1;0 1 1;x", "0;x", "1;1 1 1;1 1 1;1 1 1;1 1 1;1 1 1;",
		strings.Repeat("1", api.MaxString),
		strings.Repeat(";", api.MaxString),
	} {
		x, e := field.ParseLadder(s)
		want(t, "ParseLadder "+s[:min(len(s), 40)], x, e, api.FieldLadder{}, api.ErrSyntax)
	}
}

// P2.7: the size of a string comes first, the error of the ladder last
func TestErrorsOfParsedLadders(t *testing.T) {
	long := "1" + strings.Repeat(";1 1 1", (api.MaxString-1)/6)
	long += strings.Repeat(" ", api.MaxString-len(long))
	for s, wanted := range map[string]api.Errno{
		strings.Repeat("1", api.MaxString+1): api.ErrLarge,
		long + ";":                           api.ErrLarge,
		long:                                 api.ErrSyntax,
		strings.TrimRight(long, " "):         api.ErrLarge,
		"1":                                  api.ErrShape,
		"0":                                  api.ErrRange,
		"999;1 1 1":                          api.ErrRange,
		"21;1 1 1":                           api.ErrRange,
		"1;0 1 1":                            api.ErrRange,
		"1;1 1 1;999 1 1":                    api.ErrRange,
		"1;1 5 1":                            api.ErrRange,
		"1;1 1 2":                            api.ErrOrder,
		"1;1 1 1;1 1 1;1 1 1;1 1 1;1 1 1":    api.ErrLarge,
		"0;1 1 1;1 1 1;1 1 1;1 1 1;1 1 1":    api.ErrRange,
		"20;1 1 1;2 2 2;3 3 3;4 4 5":         api.ErrRange,
		"20;1 1 1;2 2 2;3 3 3;4 3 4":         api.ErrOrder,
	} {
		x, e := field.ParseLadder(s)
		want(t, "ParseLadder "+s[:min(len(s), 40)], x, e, api.FieldLadder{}, wanted)
	}
}
