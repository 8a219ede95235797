package monitor

import (
	"strconv"
	"strings"

	"martensite/api"
)

// maxDigits is how many digits a number has at most.
const maxDigits = 7

// spaced is the string of numbers.
func spaced(numbers ...int) string {
	var words []string
	for _, n := range numbers {
		words = append(words, strconv.Itoa(n))
	}
	return strings.Join(words, " ")
}

// number is a number without a sign.
func number(s string) (int, bool) {
	if s == "" || len(s) > maxDigits || len(s) > 1 && s[0] == '0' {
		return 0, false
	}
	n := 0
	for i := range len(s) {
		if !isDigit(s[i]) {
			return 0, false
		}
		n = 10*n + int(s[i]-'0')
	}
	return n, true
}

// signed is a number that may be below 0.
func signed(s string) (int, bool) {
	digits, below := strings.CutPrefix(s, "-")
	n, ok := number(digits)
	if below {
		return -n, ok && n > 0
	}
	return n, ok
}

// numbersIn are the numbers of a string that has at least one.
func numbersIn(s string, numberOf func(string) (int, bool)) ([]int, bool) {
	var numbers []int
	for word := range strings.SplitSeq(s, " ") {
		n, ok := numberOf(word)
		if !ok {
			return nil, false
		}
		numbers = append(numbers, n)
	}
	return numbers, true
}

// rangesIn are the ranges of a string that has at least one.
func rangesIn(s string) ([]api.Range, bool) {
	ends, ok := numbersIn(s, signed)
	if !ok || len(ends)%2 != 0 {
		return nil, false
	}
	var ranges []api.Range
	for i := range len(ends) / 2 {
		ranges = append(ranges, api.Range{Lo: ends[2*i], Hi: ends[2*i+1]})
	}
	return ranges, true
}

// rangesText is the string of the ranges of a tick.
func rangesText(row []api.Range) string {
	var ends []int
	for _, r := range row {
		ends = append(ends, r.Lo, r.Hi)
	}
	return spaced(ends...)
}

// frameIn is the frame of a string.
func frameIn(s string) (api.MonitorFrame, bool) {
	word, rest, hasValues := strings.Cut(s, " ")
	tick, ok := number(word)
	if !ok || !hasValues {
		return api.MonitorFrame{Tick: tick}, ok
	}
	values, ok := numbersIn(rest, signed)
	return api.MonitorFrame{Tick: tick, Values: values}, ok
}

// envelopeIn is the envelope of a string.
func envelopeIn(s string) (api.MonitorEnvelope, bool) {
	head, rest, hasRows := strings.Cut(s, ";")
	counts, ok := numbersIn(head, number)
	if !ok || len(counts) != 2 {
		return api.MonitorEnvelope{}, false
	}
	x := api.MonitorEnvelope{Parts: counts[0], Trim: counts[1]}
	if !hasRows {
		return x, true
	}
	for text := range strings.SplitSeq(rest, ";") {
		row, ok := rangesIn(text)
		if !ok {
			return api.MonitorEnvelope{}, false
		}
		x.Rows = append(x.Rows, row)
	}
	return x, true
}

// FormatPlan is the string of a plan.
func FormatPlan(p api.MonitorPlan) string {
	words := append([]string{strconv.Itoa(p.Ticks)}, p.Channels...)
	return strings.Join(words, " ")
}

// ParsePlan is the plan with this string.
func ParsePlan(s string) (api.MonitorPlan, api.Errno) {
	words := strings.Split(s, " ")
	ticks, ok := number(words[0])
	for _, name := range words {
		ok = ok && name != ""
	}
	if !ok {
		return api.MonitorPlan{}, api.ErrSyntax
	}
	p := api.MonitorPlan{Channels: words[1:], Ticks: ticks}
	if e := planError(p); e != api.OK {
		return api.MonitorPlan{}, e
	}
	return p, api.OK
}

// FormatFrame is the string of a frame.
func FormatFrame(f api.MonitorFrame) string {
	return spaced(append([]int{f.Tick}, f.Values...)...)
}

// ParseFrame is the frame with this string.
func ParseFrame(s string) (api.MonitorFrame, api.Errno) {
	f, ok := frameIn(s)
	if !ok {
		return api.MonitorFrame{}, api.ErrSyntax
	}
	return f, api.OK
}

// FormatEnvelope is the string of an envelope.
func FormatEnvelope(x api.MonitorEnvelope) string {
	parts := []string{spaced(x.Parts, x.Trim)}
	for _, row := range x.Rows {
		parts = append(parts, rangesText(row))
	}
	return strings.Join(parts, ";")
}

// ParseEnvelope is the envelope with this string.
func ParseEnvelope(s string) (api.MonitorEnvelope, api.Errno) {
	if len(s) > api.MaxString {
		return api.MonitorEnvelope{}, api.ErrLarge
	}
	x, ok := envelopeIn(s)
	if !ok {
		return api.MonitorEnvelope{}, api.ErrSyntax
	}
	return x, api.OK
}
