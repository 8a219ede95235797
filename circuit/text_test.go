package circuit_test

import (
	"math"
	"strings"
	"testing"

	"martensite/api"
	"martensite/circuit"
)

// malformed are strings that are neither programs nor circuits, made from one that is.
func malformed(good string) []string {
	words := strings.Split(good, " ")
	l := []string{
		"", ";", " ", good + ";", ";" + good, good + ";;" + good, good + " ", " " + good, good + " 1", good + "; " + good,
		strings.ReplaceAll(good, " ", "  "), strings.ReplaceAll(good, " ", "\t"), strings.Join(words[:3], " "), good + "\n", strings.ToUpper(good) + ";" + "U 0 + 1"}
	for i := range words {
		for _, word := range []string{"", "x", "x1", "1x", "-1", "+1", "-0", "00", "01", "007", "1000", "0000", "1.0", "\x00", "\xd9\xa1", "++", "99999999999999999999"} {
			changed := append([]string{}, words...)
			changed[i] = word
			l = append(l, strings.Join(changed, " "))
		}
	}
	return l
}

// P1.6
func TestMalformed(t *testing.T) {
	for _, s := range malformed("u 0 + 3") {
		l, e := circuit.ParseProgram(s)
		want(t, "ParseProgram of "+s, l, e, []api.CircuitCommand{}, api.ErrSyntax)
	}
	for _, s := range malformed("s 1 1 20") {
		c, e := circuit.ParseCircuit(s)
		want(t, "ParseCircuit of "+s, c, e, api.CircuitLadder{}, api.ErrSyntax)
	}
	for _, s := range []string{"u 0 1 3", "u + 0 3", "s 0 + 3", "0 u + 3", "u 0 p 3", "U 0 + 3", "ul 0 + 3", "u 0 + 3;u 0 3", "u 0 + 3;l 0 - 1000"} {
		l, e := circuit.ParseProgram(s)
		want(t, "ParseProgram of "+s, l, e, []api.CircuitCommand{}, api.ErrSyntax)
	}
	for _, s := range []string{"u 1 1 1", "S 1 1 1", "sp 1 1 1", "1 s 1 1", "s 1 1 +", "s 1 1 1;x 1 1 1", "s 1 1 1;p 1 1", "s 1 1 1;p 1 1 01"} {
		c, e := circuit.ParseCircuit(s)
		want(t, "ParseCircuit of "+s, c, e, api.CircuitLadder{}, api.ErrSyntax)
	}
}

// P1.6, errors in their order
func TestParseErrors(t *testing.T) {
	twelve := strings.TrimSuffix(strings.Repeat("l 1 - 20;", 12), ";")
	for _, x := range []struct {
		s string
		e api.Errno
	}{
		{twelve, api.OK},
		{twelve + ";u 999 + 999;x", api.ErrSyntax},
		{twelve + ";u 999 + 999", api.ErrLarge},
		{"u 9 + 9;" + twelve, api.ErrLarge},
		{"u 2 + 0", api.ErrRange},
		{"u 0 + 0;u 999 + 0", api.ErrRange},
		{"u 1 + 21", api.ErrRange},
		{"u 1 + 999", api.ErrRange},
		{"u 1 + 20", api.OK},
	} {
		l, e := circuit.ParseProgram(x.s)
		if e != x.e || e != api.OK && len(l) > 0 {
			t.Errorf("ParseProgram of %s: %v, %d, want %d", x.s, l, e, x.e)
		}
	}
	for _, x := range []struct {
		s string
		e api.Errno
	}{
		{"s 10 4 600;p 10 4 600;s 10 4 600", api.OK},
		{"p 11 5 601;s 0 0 0;s 0 0 0;s 0 0 x", api.ErrSyntax},
		{"p 11 5 601;s 0 0 0;s 0 0 0;s 0 0 0", api.ErrLarge},
		{"p 11 5 601", api.ErrForm},
		{"s 11 0 0", api.ErrRange},
		{"s 0 5 0", api.ErrRange},
		{"s 0 0 601", api.ErrRange},
		{"s 0 0 0;p 0 0 0;p 0 0 999", api.ErrRange},
		{"s 0 0 0;s 11 0 0", api.ErrRange},
	} {
		c, e := circuit.ParseCircuit(x.s)
		if e != x.e || e != api.OK && !same(c, api.CircuitLadder{}) {
			t.Errorf("ParseCircuit of %s: %v, %d, want %d", x.s, c, e, x.e)
		}
	}
}

// P1.6, example 10
func TestStringsOfExamples(t *testing.T) {
	l, e := circuit.ParseProgram(example)
	want(t, "ParseProgram", l, e, []api.CircuitCommand{
		{Upper: true, On: true, Wait: 3}, {Upper: true, Wait: 2}, {On: true, Wait: 3}, {Wait: 2}}, api.OK)
	want(t, "FormatProgram", circuit.FormatProgram(l), api.OK, example, api.OK)
	c, e := circuit.ParseCircuit("s 2 1 0;p 0 0 18")
	want(t, "ParseCircuit", c, e, api.CircuitLadder{Load: api.CircuitPart{Resistance: 2, Inductance: 1}, Parts: []api.CircuitPart{{Elastance: 18, Shunt: true}}}, api.OK)
	want(t, "FormatCircuit", circuit.FormatCircuit(c), api.OK, "s 2 1 0;p 0 0 18", api.OK)
	l, e = circuit.ParseProgram("l 1 - 20")
	want(t, "ParseProgram of another leg", l, e, []api.CircuitCommand{{Leg: 1, Wait: 20}}, api.OK)
}

// P1.6: strings of what is not valid
func TestFormatWhatever(t *testing.T) {
	want(t, "nothing", circuit.FormatProgram(nil), api.OK, "", api.OK)
	l := []api.CircuitCommand{{Leg: -1, Wait: math.MinInt}, {Leg: 1000, Upper: true, On: true, Wait: math.MaxInt}}
	want(t, "FormatProgram", circuit.FormatProgram(l), api.OK, "l -1 - -9223372036854775808;u 1000 + 9223372036854775807", api.OK)
	many := strings.TrimSuffix(strings.Repeat("l 0 - 0;", 40), ";")
	want(t, "many commands", circuit.FormatProgram(make([]api.CircuitCommand, 40)), api.OK, many, api.OK)
	c := api.CircuitLadder{Load: api.CircuitPart{Resistance: -7, Shunt: true}, Parts: make([]api.CircuitPart, 3)}
	want(t, "FormatCircuit", circuit.FormatCircuit(c), api.OK, "p -7 0 0;s 0 0 0;s 0 0 0;s 0 0 0", api.OK)
	want(t, "the zero circuit", circuit.FormatCircuit(api.CircuitLadder{}), api.OK, "s 0 0 0", api.OK)
}

// P1.14
func TestReversed(t *testing.T) {
	programs(func(b api.CircuitBridge, l []api.CircuitCommand) {
		again, e := circuit.ParseProgram(circuit.FormatProgram(l))
		want(t, "ParseProgram", again, e, l, api.OK)
	})
	ladders(func(c api.CircuitLadder, f int) {
		again, e := circuit.ParseCircuit(circuit.FormatCircuit(c))
		want(t, "ParseCircuit", again, e, c, api.OK)
	})
}
