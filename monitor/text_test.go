package monitor_test

import (
	"math"
	"math/rand"
	"slices"
	"strings"
	"testing"

	"martensite/api"
	"martensite/monitor"
)

// P7.8, example 10
func TestFormatPlan(t *testing.T) {
	for s, p := range map[string]api.MonitorPlan{
		"2 power flow":             examplePlan(),
		"0":                        {},
		"-7 ":                      plan(-7, ""),
		"5 a a 1 b c":              plan(5, "a", "a", "1", "b", "c"),
		"9223372036854775807 x  y": plan(math.MaxInt, "x", "", "y"),
		"-9223372036854775808 ;":   plan(math.MinInt, ";"),
	} {
		want(t, "FormatPlan", monitor.FormatPlan(p), api.OK, s, api.OK)
	}
	channels := make([]string, 1, 9)
	monitor.FormatPlan(plan(2, channels...))
	want(t, "FormatPlan", channels[:2], api.OK, []string{"", ""}, api.OK)
}

// P7.8, example 10
func TestFormatFrame(t *testing.T) {
	for s, f := range map[string]api.MonitorFrame{
		"1 12 5":       frame(1, 12, 5),
		"0":            {},
		"3":            frame(3, []int{}...),
		"-1 -2 0 3 -4": frame(-1, -2, 0, 3, -4),
		"9223372036854775807 -9223372036854775808": frame(math.MaxInt, math.MinInt),
	} {
		want(t, "FormatFrame", monitor.FormatFrame(f), api.OK, s, api.OK)
	}
}

// P7.8, example 10
func TestFormatEnvelope(t *testing.T) {
	for s, x := range map[string]api.MonitorEnvelope{
		"3 0;10 13 5 6;11 12 4 5":        exampleEnvelope(),
		"0 0":                            {},
		"3 -1":                           envelope(3, -1),
		"3 1;":                           envelope(3, 1, row()),
		"3 1;;5 -4;;-1 -2 3 0":           envelope(3, 1, nil, row(5, -4), row(), row(-1, -2, 3, 0)),
		"-9223372036854775808 7;2 2 3 4": envelope(math.MinInt, 7, row(2, 2, 3, 4)),
		"1 9223372036854775807;9223372036854775807 -9223372036854775808": envelope(1, math.MaxInt, row(math.MaxInt, math.MinInt)),
	} {
		want(t, "FormatEnvelope", monitor.FormatEnvelope(x), api.OK, s, api.OK)
	}
}

// P7.8, P7.15
func TestParseReversesFormat(t *testing.T) {
	plans(1000, func(random *rand.Rand, p api.MonitorPlan, most int) {
		q, e := monitor.ParsePlan(monitor.FormatPlan(p))
		want(t, "ParsePlan", q, e, p, api.OK)
		f := frame(random.Intn(p.Ticks), someValues(random, p, most)...)
		g, e := monitor.ParseFrame(monitor.FormatFrame(f))
		want(t, "ParseFrame", g, e, f, api.OK)
		l := someRecords(random, p, between(random, 1, api.MaxMonitorParts), most)
		x, _ := monitor.EnvelopeOf(p, l, random.Intn((len(l)+1)/2))
		y, e := monitor.ParseEnvelope(monitor.FormatEnvelope(x))
		want(t, "ParseEnvelope", y, e, x, api.OK)
	})
	for _, p := range []api.MonitorPlan{examplePlan(), plan(1, "a"), plan(12, "abcdefghijkl", "Z9-", "z", "a--0")} {
		q, e := monitor.ParsePlan(monitor.FormatPlan(p))
		want(t, "ParsePlan", q, e, p, api.OK)
	}
}

// P7.8: malformed strings, and the errors of the plan
func TestErrorsOfParsePlan(t *testing.T) {
	for _, s := range []string{
		"", " ", "2 ", " 2", "2  a", "2 a ", " 2 a", "2 a  b", "2 a b ", "a", "a 2", "a b", "2a", "2;a", "2,a",
		"-2 a", "+2 a", "-0 a", "02 a", "00 a", "10000000 a", "00000002 a", "99999999999999999999 a", "2. a", "0x2 a", "\xc2\xb2 a", "2\ta", "2\n", "/ a", ": a", "- a",
		strings.Repeat(" ", 70000), strings.Repeat("2", 70000), "2" + strings.Repeat(" a", 70000) + " ",
	} {
		p, e := monitor.ParsePlan(s)
		want(t, "ParsePlan "+s[:min(len(s), 40)], p, e, api.MonitorPlan{}, api.ErrSyntax)
	}
	for s, wanted := range map[string]api.Errno{
		"2":                               api.ErrShape,
		"0":                               api.ErrShape,
		"9999999":                         api.ErrShape,
		"2 a b c d e":                     api.ErrLarge,
		"0 1 1 1 1 1":                     api.ErrLarge,
		"2" + strings.Repeat(" a", 70000): api.ErrLarge,
		"2 1":                             api.ErrName,
		"0 1":                             api.ErrName,
		"2 a;b":                           api.ErrName,
		"2 a\tb":                          api.ErrName,
		"2 a\n":                           api.ErrName,
		"2 abcdefghijklm":                 api.ErrName,
		"2 " + strings.Repeat("a", 70000): api.ErrName,
		"2 \xff":                          api.ErrName,
		"2 a a":                           api.ErrExists,
		"0 a b c a":                       api.ErrExists,
		"0 a":                             api.ErrRange,
		"13 a":                            api.ErrRange,
		"9999999 a":                       api.ErrRange,
	} {
		p, e := monitor.ParsePlan(s)
		want(t, "ParsePlan "+s[:min(len(s), 40)], p, e, api.MonitorPlan{}, wanted)
	}
}

// badWords are words that are neither numbers nor numbers below 0.
func badWords() []string {
	return []string{"", "-", "+1", "01", "00", "-0", "-01", "-00", "--1", "1-", "-1-", "10000000", "-10000000", "00000001", "99999999999999999999", "-99999999999999999999", "a", "1a", "1.0", "1e1", "0x1", "1\t", "\n", "\xc2\xb2", "1\x00", "/", ":", "-/", "-:", "1,2"}
}

// P7.8: frames, which need not be those of some plan
func TestParseFrame(t *testing.T) {
	long := slices.Repeat([]int{-9999999}, 9000)
	for s, f := range map[string]api.MonitorFrame{
		"1 12 5":                                frame(1, 12, 5),
		"0":                                     frame(0),
		"9999999":                               frame(9999999),
		"13 9999999":                            frame(13, 9999999),
		"13 -9999999 -1 0 1 2 3":                frame(13, -9999999, -1, 0, 1, 2, 3),
		"7" + strings.Repeat(" -9999999", 9000): frame(7, long...),
	} {
		g, e := monitor.ParseFrame(s)
		want(t, "ParseFrame "+s[:min(len(s), 40)], g, e, f, api.OK)
	}
}

// P7.8: malformed strings
func TestErrorsOfParseFrame(t *testing.T) {
	l := []string{" ", "1 ", " 1", "1  2", "1 2 ", " 1 2", "-1", "-1 2", "-9999999", "1;2", "1 2;3", "1 2;3 4", "1 2, 3"}
	for _, word := range badWords() {
		l = append(l, word, word+" 5", "1 "+word, "1 "+word+" 5", "1 2 "+word)
	}
	for _, s := range append(l, strings.Repeat("1", 70000), strings.Repeat(" ", 70000), strings.Repeat("1 ", 70000)) {
		f, e := monitor.ParseFrame(s)
		want(t, "ParseFrame "+s[:min(len(s), 40)], f, e, api.MonitorFrame{}, api.ErrSyntax)
	}
}

// P7.8: envelopes, which need not be those of some plan
func TestParseEnvelope(t *testing.T) {
	long := "3 0" + strings.Repeat(";1 2", (api.MaxString-3)/4)
	long += strings.Repeat("3", api.MaxString-len(long))
	for s, x := range map[string]api.MonitorEnvelope{
		"3 0;10 13 5 6;11 12 4 5":            exampleEnvelope(),
		"0 0":                                envelope(0, 0),
		"9999999 9999999":                    envelope(9999999, 9999999),
		"3 7;-9999999 9999999":               envelope(3, 7, row(-9999999, 9999999)),
		"3 0;5 -4;-1 -2 3 0 1 1;0 0":         envelope(3, 0, row(5, -4), row(-1, -2, 3, 0, 1, 1), row(0, 0)),
		"1 0;1 2 3 4 5 6 7 8 9 10 11 12":     envelope(1, 0, row(1, 2, 3, 4, 5, 6, 7, 8, 9, 10, 11, 12)),
		"3 0" + strings.Repeat(";1 2", 9999): envelope(3, 0, slices.Repeat([][]api.Range{row(1, 2)}, 9999)...),
	} {
		y, e := monitor.ParseEnvelope(s)
		want(t, "ParseEnvelope "+s[:min(len(s), 40)], y, e, x, api.OK)
	}
	y, e := monitor.ParseEnvelope(long)
	want(t, "ParseEnvelope", len(y.Rows), e, (api.MaxString-3)/4, api.OK)
}

// P7.8: malformed strings
func TestErrorsOfParseEnvelope(t *testing.T) {
	l := []string{
		" ", ";", "3", "3;", "3 0;", "3 0 ", " 3 0", "3  0", "3 0 1", "3 0 1;1 2", "3 0;;1 2", "3 0;1 2;", "3 0;1 2;;1 2", ";1 2", ";;", "3;0;1 2",
		"3 0;1", "3 0;1 2 3", "3 0;1 2 3 4 5", "3 0;1 2;3", "3 0;1 2 ", "3 0; 1 2", "3 0;1  2", "3 0 ;1 2", "3 0;1 2; 3 4", "3 0;1 2;3 4 ",
		"-3 0", "3 -1", "-3 0;1 2", "3 -1;1 2", "3 0,1 2", "3 0:1 2",
	}
	for _, word := range badWords() {
		l = append(l, word+" 0;1 2", "3 "+word+";1 2", "3 0;"+word+" 2", "3 0;1 "+word, "3 0;1 2;3 "+word+" 5 6", "3 0;1 2;"+word)
	}
	for _, s := range append(l, "", strings.Repeat(" ", api.MaxString), strings.Repeat(";", api.MaxString), strings.Repeat("1", api.MaxString)) {
		x, e := monitor.ParseEnvelope(s)
		want(t, "ParseEnvelope "+s[:min(len(s), 40)], x, e, noEnvelope(), api.ErrSyntax)
	}
	long := "3 0" + strings.Repeat(";1 2", api.MaxString/4)
	for _, s := range []string{long, strings.Repeat("x", api.MaxString+1)} {
		x, e := monitor.ParseEnvelope(s)
		want(t, "ParseEnvelope "+s[:40], x, e, noEnvelope(), api.ErrLarge)
	}
}

// R3: the rows of a parsed envelope share no memory
func TestMemoryOfParsedEnvelopes(t *testing.T) {
	x, _ := monitor.ParseEnvelope("3 0;10 13 5 6;11 12 4 5")
	_ = append(x.Rows[0], span(7, 7))
	x.Rows[0][1] = span(0, 0)
	want(t, "ParseEnvelope", x.Rows[1], api.OK, row(11, 12, 4, 5), api.OK)
}
