package steel

import (
	"strconv"
	"strings"

	"martensite/api"
)

// joined is the string of items with a sign between.
func joined[T any](items []T, sign string, textOf func(T) string) string {
	var texts []string
	for _, x := range items {
		texts = append(texts, textOf(x))
	}
	return strings.Join(texts, sign)
}

// numbersText is the string of numbers.
func numbersText(numbers []int) string { return joined(numbers, " ", strconv.Itoa) }

// knotsText is the string of knots of a kind.
func knotsText[K any](items []K, knotOf func(K) knot) string {
	return joined(items, ";", func(k K) string { return numbersText(knotOf(k).numbers()) })
}

// number is a number of at most 7 digits.
func number(s string) (int, bool) {
	if s == "" || len(s) > 7 || len(s) > 1 && s[0] == '0' {
		return 0, false
	}
	n := 0
	for i := range len(s) {
		if !isDigit(s[i]) {
			return 0, false
		}
		n = 10*n + int(s[i]-'0')
	}
	return n, true
}

// numbersIn are the numbers of a string that has so many.
func numbersIn(s string, count int) ([]int, bool) {
	words := strings.SplitN(s, " ", count+1)
	if len(words) != count {
		return nil, false
	}
	var numbers []int
	for _, word := range words {
		n, ok := number(word)
		if !ok {
			return nil, false
		}
		numbers = append(numbers, n)
	}
	return numbers, true
}

// knotsIn are the knots of a string, each with so many numbers.
func knotsIn[K any](s string, count int, knotOf func([]int) K) ([]K, bool) {
	if s == "" {
		return nil, true
	}
	var knots []K
	for text := range strings.SplitSeq(s, ";") {
		numbers, ok := numbersIn(text, count)
		if !ok {
			return nil, false
		}
		knots = append(knots, knotOf(numbers))
	}
	return knots, true
}

// heatOf is the knot of Heats with these numbers.
func heatOf(n []int) api.SteelHeat {
	return api.SteelHeat{Kelvin: n[0], Rate: api.Range{Lo: n[1], Hi: n[2]}, Growth: n[3]}
}

// coolOf is the knot of Cools with these numbers.
func coolOf(n []int) api.SteelCool {
	return api.SteelCool{Kelvin: n[0], Wait: api.Range{Lo: n[1], Hi: n[2]}, Rate: api.Range{Lo: n[3], Hi: n[4]}}
}

// coldOf is the knot of Colds with these numbers.
func coldOf(n []int) api.SteelCold {
	return api.SteelCold{Kelvin: n[0], Share: api.Range{Lo: n[1], Hi: n[2]}}
}

// temperOf is the knot of Tempers with these numbers.
func temperOf(n []int) api.SteelTemper { return api.SteelTemper{Kelvin: n[0], Rate: n[1]} }

// rulesIn are the rules of the strings of their five parts.
func rulesIn(parts []string) (api.SteelRules, bool) {
	heats, isHeats := knotsIn(parts[0], 4, heatOf)
	cools, isCools := knotsIn(parts[1], 5, coolOf)
	colds, isColds := knotsIn(parts[2], 3, coldOf)
	tempers, isTempers := knotsIn(parts[3], 2, temperOf)
	hard, isHard := numbersIn(parts[4], 4)
	if !isHeats || !isCools || !isColds || !isTempers || !isHard {
		return api.SteelRules{}, false
	}
	return api.SteelRules{Heats: heats, Cools: cools, Colds: colds, Tempers: tempers, Hard: [4]int(hard)}, true
}

// FormatRules is the string of rules.
func FormatRules(r api.SteelRules) string {
	return strings.Join([]string{
		knotsText(r.Heats, heatKnot),
		knotsText(r.Cools, coolKnot),
		knotsText(r.Colds, coldKnot),
		knotsText(r.Tempers, temperKnot),
		numbersText(r.Hard[:]),
	}, "/")
}

// ParseRules is the rules with this string.
func ParseRules(s string) (api.SteelRules, api.Errno) {
	if len(s) > api.MaxString {
		return api.SteelRules{}, api.ErrLarge
	}
	parts := strings.Split(s, "/")
	if len(parts) != 5 {
		return api.SteelRules{}, api.ErrSyntax
	}
	r, ok := rulesIn(parts)
	if !ok {
		return api.SteelRules{}, api.ErrSyntax
	}
	if e := rulesError(r); e != api.OK {
		return api.SteelRules{}, e
	}
	return r, api.OK
}

// FormatState is the string of a state.
func FormatState(s api.SteelState) string {
	numbers := numbersOf(&s)
	return joined(numbers[:], " ", func(n *int) string { return strconv.Itoa(*n) })
}

// ParseState is the state with this string.
func ParseState(s string) (api.SteelState, api.Errno) {
	var x api.SteelState
	places := numbersOf(&x)
	numbers, ok := numbersIn(s, len(places))
	if !ok {
		return api.SteelState{}, api.ErrSyntax
	}
	for i, n := range places {
		*n = numbers[i]
	}
	if e := CheckState(x); e != api.OK {
		return api.SteelState{}, e
	}
	return x, api.OK
}
