package heat

import (
	"strconv"
	"strings"

	"martensite/api"
)

// pairText is the string of two numbers.
func pairText(a, b int) string { return strconv.Itoa(a) + " " + strconv.Itoa(b) }

// text is the string of the corners of a polyline.
func (l polyline) text() string {
	var pairs []string
	for _, c := range l {
		pairs = append(pairs, pairText(c.x, c.y))
	}
	return strings.Join(pairs, ",")
}

// number is a number of at most 7 digits.
func number(s string) (int, bool) {
	if s == "" || len(s) > 7 || len(s) > 1 && s[0] == '0' {
		return 0, false
	}
	n := 0
	for i := range len(s) {
		if s[i] < '0' || s[i] > '9' {
			return 0, false
		}
		n = 10*n + int(s[i]-'0')
	}
	return n, true
}

// pairOf are the two numbers of a string.
func pairOf(s string) (int, int, bool) {
	first, second, _ := strings.Cut(s, " ")
	a, isFirst := number(first)
	b, isSecond := number(second)
	return a, b, isFirst && isSecond
}

// itemsOf are the items of a string, each of two numbers.
func itemsOf[T any](s string, itemOf func(a, b int) T) ([]T, bool) {
	if s == "" {
		return nil, true
	}
	var items []T
	for pair := range strings.SplitSeq(s, ",") {
		a, b, ok := pairOf(pair)
		if !ok {
			return nil, false
		}
		items = append(items, itemOf(a, b))
	}
	return items, true
}

// setupOf is the set-up of the strings of its parts.
func setupOf(cells, table string, laws []string) (api.HeatSetup, bool) {
	var s api.HeatSetup
	var isPair, isTable bool
	s.Cells, s.Exchange, isPair = pairOf(cells)
	s.Table, isTable = itemsOf(table, func(a, b int) api.HeatKnot { return api.HeatKnot{Energy: a, Kelvin: b} })
	if !isPair || !isTable {
		return api.HeatSetup{}, false
	}
	for _, text := range laws {
		law, ok := itemsOf(text, func(a, b int) api.HeatPoint { return api.HeatPoint{Kelvin: a, Loss: b} })
		if !ok {
			return api.HeatSetup{}, false
		}
		s.Laws = append(s.Laws, law)
	}
	return s, true
}

// FormatSetup is the string of a set-up.
func FormatSetup(s api.HeatSetup) string {
	p := partOf(s)
	texts := []string{pairText(p.Cells, p.Exchange), p.table.text()}
	for _, law := range p.losses {
		texts = append(texts, law.text())
	}
	return strings.Join(texts, ";")
}

// ParseSetup is the set-up with this string.
func ParseSetup(s string) (api.HeatSetup, api.Errno) {
	if len(s) > api.MaxString {
		return api.HeatSetup{}, api.ErrLarge
	}
	texts := strings.Split(s, ";")
	if len(texts) < 2 {
		return api.HeatSetup{}, api.ErrSyntax
	}
	setup, ok := setupOf(texts[0], texts[1], texts[2:])
	if !ok {
		return api.HeatSetup{}, api.ErrSyntax
	}
	if f := setupError(setup); f != api.OK {
		return api.HeatSetup{}, f
	}
	return setup, api.OK
}
