package distort_test

import (
	"math"
	"math/rand"
	"strings"
	"testing"

	"martensite/api"
	"martensite/distort"
)

// P6.6, example 11
func TestFormatShaft(t *testing.T) {
	for s, x := range map[string]api.DistortShaft{
		"100;40 10 12":            example(),
		"100;40 10 12;80 -5 -5":   exampleTwo(),
		"100":                     shaft(100),
		"0":                       {},
		"-7;-1 5 -5;0 0 0;-1 9 8": shaft(-7, -1, 5, -5, 0, 0, 0, -1, 9, 8),
		"99999999;1 2 3":          shaft(99999999, 1, 2, 3),
		"5;1 3 4":                 {Length: 5, Joints: []int{1, 2}, Kinks: []api.Range{span(3, 4)}},
		"6;1 3 4":                 {Length: 6, Joints: []int{1}, Kinks: []api.Range{span(3, 4), span(5, 6)}},
		"7":                       {Length: 7, Joints: []int{1}},
		"8":                       {Length: 8, Kinks: []api.Range{span(3, 4)}},
		"-9223372036854775808;9223372036854775807 -9223372036854775808 0": shaft(math.MinInt, math.MaxInt, math.MinInt, 0),
	} {
		want(t, "FormatShaft", distort.FormatShaft(x), api.OK, s, api.OK)
	}
}

// P6.6, example 11
func TestFormatPlan(t *testing.T) {
	for s, l := range map[string][]api.DistortStroke{
		"0 8 up":                            strokes(up(0, 8)),
		"0 8 up;1 5 down":                   strokes(up(0, 8), down(1, 5)),
		"":                                  nil,
		"-1 -2 down;99999999 0 up;0 0 down": strokes(down(-1, -2), up(99999999, 0), down(0, 0)),
		"-9223372036854775808 9223372036854775807 up": strokes(up(math.MinInt, math.MaxInt)),
		"1 1 up;1 1 up;1 1 up;1 1 up;1 1 up":          strokes(up(1, 1), up(1, 1), up(1, 1), up(1, 1), up(1, 1)),
	} {
		want(t, "FormatPlan", distort.FormatPlan(l), api.OK, s, api.OK)
	}
	want(t, "FormatPlan", distort.FormatPlan(strokes()), api.OK, "", api.OK)
}

// P6.6, P6.13
func TestParseReversesFormat(t *testing.T) {
	for _, s := range goodShafts() {
		x, e := distort.ParseShaft(distort.FormatShaft(s))
		want(t, "ParseShaft", x, e, s, api.OK)
	}
	shafts(1000, func(random *rand.Rand, s api.DistortShaft) {
		x, e := distort.ParseShaft(distort.FormatShaft(s))
		want(t, "ParseShaft", x, e, s, api.OK)
		var plan []api.DistortStroke
		for range random.Intn(api.MaxDistortStrokes + 1) {
			plan = append(plan, api.DistortStroke{Joint: between(random, 0, 3), Amount: between(random, 1, 10000), Up: random.Intn(2) == 0})
		}
		l, e := distort.ParsePlan(distort.FormatPlan(plan))
		want(t, "ParsePlan", l, e, plan, api.OK)
	})
	x, e := distort.ParseShaft("100;40 10 12")
	want(t, "ParseShaft", x, e, example(), api.OK)
	for s, plan := range map[string][]api.DistortStroke{
		"0 8 up":                        strokes(up(0, 8)),
		"":                              nil,
		"9999999 0 down":                strokes(down(9999999, 0)),
		"0 9999999 up;7 0 up":           strokes(up(0, 9999999), up(7, 0)),
		"1 2 up;0 2 down;1 2 up;1 2 up": strokes(up(1, 2), down(0, 2), up(1, 2), up(1, 2)),
	} {
		l, e := distort.ParsePlan(s)
		want(t, "ParsePlan "+s, l, e, plan, api.OK)
	}
}

// P6.6: malformed strings
func TestSyntaxOfShafts(t *testing.T) {
	for _, s := range []string{
		"", " ", ";", "100;", "100;;40 10 12", "100;40 10 12;", ";40 10 12", "100 ", " 100", "100 40 10 12", "100,40 10 12", "100;40 10", "100;40", "100;40 10 12 13",
		"100;40 10 12 ", "100; 40 10 12", "100;40  10 12", "100;40 10 12; ", "100;40\t10 12", "100;40 10 12\n", "100\x00", "100;40 10 \xc2\xb2", "100;40 10 12;80 -5",
		"-100", "-100;40 10 12", "+100", "0100", "00", "-0", "100;-40 10 12", "100;+40 10 12", "100;040 10 12", "100;-0 10 12",
		"100;40 -0 12", "100;40 10 -0", "100;40 +10 12", "100;40 10 +12", "100;40 010 12", "100;40 10 012", "100;40 -01 12", "100;40 -00 12", "100;40 --1 12", "100;40 - 12", "100;40 -10 -",
		"10000000", "10000000;40 10 12", "100;10000000 10 12", "100;40 -10000000 12", "100;40 10 10000000", "100;40 10 00000012", "100;40 10 99999999999999999999",
		"a", "1a0", "100;4a 10 12", "100;40 1.0 12", "100;40 10 1e1", "100;40 10 0x1", "100;40 / 12", "100;40 : 12", "100;40 1- 12",
		"0;x", "0;0 0 0;0 0 0;0 0 0;0 0 0;0 0 0;0 0 x", "100;40 10 12;40 10", "99999999",
		strings.Repeat("1", api.MaxString), strings.Repeat(";", api.MaxString), strings.Repeat(" ", api.MaxString),
	} {
		x, e := distort.ParseShaft(s)
		want(t, "ParseShaft "+s[:min(len(s), 40)], x, e, none(), api.ErrSyntax)
	}
}

// P6.6: the size of a string comes first, the error of the shaft last
func TestErrorsOfParsedShafts(t *testing.T) {
	long := "100" + strings.Repeat(";4 1 2", (api.MaxString-4)/6)
	long += strings.Repeat("2", api.MaxString-len(long))
	for s, wanted := range map[string]api.Errno{
		strings.Repeat("1", api.MaxString+1): api.ErrLarge,
		strings.Repeat("x", api.MaxString+1): api.ErrLarge,
		long + ";":                           api.ErrLarge,
		long:                                 api.ErrLarge,
		"0" + long[3:]:                       api.ErrRange,
		long[:api.MaxString-1] + "x":         api.ErrSyntax,
		"0":                                  api.ErrRange,
		"10001":                              api.ErrRange,
		"9999999":                            api.ErrRange,
		"0;0 0 0;0 0 0;0 0 0;0 0 0;0 0 0":    api.ErrRange,
		"9;0 0 0;0 0 0;0 0 0;0 0 0;0 0 0":    api.ErrLarge,
		"9;0 0 0":                            api.ErrRange,
		"9;9 0 0":                            api.ErrRange,
		"9;9999999 0 0":                      api.ErrRange,
		"9;5 0 0;5 0 0":                      api.ErrOrder,
		"9;5 -100001 0":                      api.ErrRange,
		"9;5 -9999999 9999999":               api.ErrRange,
		"9;5 0 -1":                           api.ErrOrder,
		"9;5 -1 0":                           api.OK,
		"9;5 -100000 100000":                 api.OK,
		"1":                                  api.OK,
		"10000;9999 0 0":                     api.OK,
	} {
		x, e := distort.ParseShaft(s)
		if e != wanted || e != api.OK && !same(x, none()) {
			t.Errorf("ParseShaft %s: %+v, %d, want %d", s[:min(len(s), 40)], x, e, wanted)
		}
	}
}

// P6.6: malformed strings
func TestSyntaxOfPlans(t *testing.T) {
	for _, s := range []string{
		" ", ";", "0 8 up;", ";0 8 up", "0 8 up;;0 8 up", "0 8", "0", "0 8 ", "0 8 up ", " 0 8 up", "0  8 up", "0 8 up down", "0 8 up 1", "0 8  up", "0\t8 up", "0 8 up\n",
		"0 8 Up", "0 8 UP", "0 8 u", "0 8 upp", "0 8 dow", "0 8 downs", "0 8 left", "0 8 0", "up 0 8", "0 up 8", "0 8 up,0 8 up", "0 8 up; 0 8 up", "0 8 up ;0 8 up",
		"-0 8 up", "-1 8 up", "0 -8 up", "0 -0 up", "+0 8 up", "0 +8 up", "00 8 up", "0 08 up", "10000000 8 up", "0 10000000 down", "00000001 8 up", "0 99999999999999999999 up",
		"a 8 up", "0 a up", "0 8. up", "0 0x8 up", "0 / up", ": 8 up", "0 8 up\x00", "0 \xc2\xb2 up", "0 8 \xff",
		"0 8 up;0 8 up;0 8 up;0 8 up;0 8 up;0 8", "0 8 up;0 8 up;0 8 up;0 8 up;",
		strings.Repeat("1", api.MaxString), strings.Repeat(";", api.MaxString), strings.Repeat(" ", api.MaxString),
	} {
		l, e := distort.ParsePlan(s)
		want(t, "ParsePlan "+s[:min(len(s), 40)], l, e, strokes(), api.ErrSyntax)
	}
}

// P6.6: the size of a string comes first, the number of strokes last
func TestErrorsOfParsedPlans(t *testing.T) {
	long := strings.Repeat("0 8 up;", api.MaxString/7)
	long += strings.Repeat("0", 7+api.MaxString%7)
	long = long[:api.MaxString]
	for s, wanted := range map[string]api.Errno{
		strings.Repeat("1", api.MaxString+1): api.ErrLarge,
		strings.Repeat("0 8 up;", 9000):      api.ErrLarge,
		long:                                 api.ErrSyntax,
		long + "0":                           api.ErrLarge,
		strings.Repeat("0 8 up;", 8000) + "0 8 up": api.ErrLarge,
		"0 8 up;0 8 up;0 8 up;0 8 up;0 8 up":       api.ErrLarge,
		"1 1 up;2 2 down;3 3 up;4 4 down;5 5 up":   api.ErrLarge,
	} {
		l, e := distort.ParsePlan(s)
		want(t, "ParsePlan "+s[:min(len(s), 40)], l, e, strokes(), wanted)
	}
}
