package inspect

import (
	"strconv"
	"strings"

	"martensite/api"
)

// maxDigits is how many digits a number has at most.
const maxDigits = 7

// textOf is the string of items, of each of which these numbers are written.
func textOf[T any](items []T, numbersOf func(T) []int) string {
	var parts []string
	for _, x := range items {
		var words []string
		for _, n := range numbersOf(x) {
			words = append(words, strconv.Itoa(n))
		}
		parts = append(parts, strings.Join(words, " "))
	}
	return strings.Join(parts, ";")
}

// number is a number without a sign.
func number(s string) (int, bool) {
	if s == "" || len(s) > maxDigits || len(s) > 1 && s[0] == '0' {
		return 0, false
	}
	n := 0
	for i := range len(s) {
		if s[i] < '0' || s[i] > '9' {
			return 0, false
		}
		n = 10*n + int(s[i]-'0')
	}
	return n, true
}

// numbersIn are so many numbers of a string.
func numbersIn(s string, count int) ([]int, bool) {
	var numbers []int
	for word := range strings.SplitSeq(s, " ") {
		n, ok := number(word)
		if !ok {
			return nil, false
		}
		numbers = append(numbers, n)
	}
	return numbers, len(numbers) == count
}

// itemsIn are the items of a string, each of which is made from so many numbers.
func itemsIn[T any](s string, count int, made func([]int) T) ([]T, api.Errno) {
	if len(s) > api.MaxString {
		return nil, api.ErrLarge
	}
	var items []T
	for part := range strings.SplitSeq(s, ";") {
		numbers, ok := numbersIn(part, count)
		if !ok {
			return nil, api.ErrSyntax
		}
		items = append(items, made(numbers))
	}
	return items, api.OK
}

// FormatTraverse is the string of a traverse.
func FormatTraverse(t api.InspectTraverse) string {
	return textOf(t.Indents, func(x api.InspectIndent) []int {
		return []int{x.Depth, x.Diagonal, x.Hardness.Lo, x.Hardness.Hi}
	})
}

// ParseTraverse is the traverse with this string.
func ParseTraverse(s string) (api.InspectTraverse, api.Errno) {
	l, e := itemsIn(s, 4, func(n []int) api.InspectIndent {
		return api.InspectIndent{Depth: n[0], Diagonal: n[1], Hardness: api.Range{Lo: n[2], Hi: n[3]}}
	})
	if e != api.OK {
		return api.InspectTraverse{}, e
	}
	t := api.InspectTraverse{Indents: l}
	if e := traverseError(t); e != api.OK {
		return api.InspectTraverse{}, e
	}
	return t, api.OK
}

// FormatTable is the string of a table.
func FormatTable(x api.InspectTable) string {
	return textOf(x.Knots, func(k api.InspectKnot) []int {
		return []int{k.From, k.To.Lo, k.To.Hi}
	})
}

// ParseTable is the table with this string.
func ParseTable(s string) (api.InspectTable, api.Errno) {
	l, e := itemsIn(s, 3, func(n []int) api.InspectKnot {
		return api.InspectKnot{From: n[0], To: api.Range{Lo: n[1], Hi: n[2]}}
	})
	if e != api.OK {
		return api.InspectTable{}, e
	}
	x := api.InspectTable{Knots: l}
	if e := tableError(x); e != api.OK {
		return api.InspectTable{}, e
	}
	return x, api.OK
}
