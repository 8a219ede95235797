package circuit

import (
	"strconv"
	"strings"

	"martensite/api"
)

// joined is the string of items with ";" between.
func joined[T any](items []T, textOf func(T) string) string {
	var texts []string
	for _, x := range items {
		texts = append(texts, textOf(x))
	}
	return strings.Join(texts, ";")
}

// parsed are the items of a string, each of four words, or ErrSyntax.
func parsed[T any](s string, itemOf func([4]string) (T, bool)) ([]T, api.Errno) {
	var items []T
	for text := range strings.SplitSeq(s, ";") {
		var words [4]string
		l := strings.Split(text, " ")
		if len(l) != len(words) {
			return nil, api.ErrSyntax
		}
		copy(words[:], l)
		x, ok := itemOf(words)
		if !ok {
			return nil, api.ErrSyntax
		}
		items = append(items, x)
	}
	return items, api.OK
}

// word is whether a word is the first one of two, and whether it is one of them.
func word(s, first, second string) (bool, bool) {
	return s == first, s == first || s == second
}

// wordFor is the first one of two words if it is so, otherwise the second one.
func wordFor(is bool, first, second string) string {
	if is {
		return first
	}
	return second
}

// number is a number of at most 3 digits.
func number(s string) (int, bool) {
	if s == "" || len(s) > 3 || len(s) > 1 && s[0] == '0' {
		return 0, false
	}
	n := 0
	for i := range len(s) {
		if s[i] < '0' || s[i] > '9' {
			return 0, false
		}
		n = 10*n + int(s[i]-'0')
	}
	return n, true
}

// commandOf is the command with these words.
func commandOf(words [4]string) (api.CircuitCommand, bool) {
	upper, known := word(words[0], "u", "l")
	leg, isLeg := number(words[1])
	on, signed := word(words[2], "+", "-")
	wait, isWait := number(words[3])
	if !known || !isLeg || !signed || !isWait {
		return api.CircuitCommand{}, false
	}
	return api.CircuitCommand{Leg: leg, Upper: upper, On: on, Wait: wait}, true
}

// partOf is the part with these words.
func partOf(words [4]string) (api.CircuitPart, bool) {
	shunt, known := word(words[0], "p", "s")
	resistance, isResistance := number(words[1])
	inductance, isInductance := number(words[2])
	elastance, isElastance := number(words[3])
	if !known || !isResistance || !isInductance || !isElastance {
		return api.CircuitPart{}, false
	}
	return api.CircuitPart{Resistance: resistance, Inductance: inductance, Elastance: elastance, Shunt: shunt}, true
}

// FormatProgram is the string of a program.
func FormatProgram(l []api.CircuitCommand) string {
	return joined(l, func(c api.CircuitCommand) string {
		return wordFor(c.Upper, "u", "l") + " " + strconv.Itoa(c.Leg) + " " + wordFor(c.On, "+", "-") + " " + strconv.Itoa(c.Wait)
	})
}

// ParseProgram is the commands with this string.
func ParseProgram(s string) ([]api.CircuitCommand, api.Errno) {
	l, e := parsed(s, commandOf)
	if e != api.OK {
		return nil, e
	}
	if len(l) > api.MaxCircuitCommands {
		return nil, api.ErrLarge
	}
	_, e = firstError(l, func(c api.CircuitCommand) api.Errno {
		return firstOf(rangeError(0, api.MaxCircuitLegs-1, c.Leg), rangeError(0, api.MaxCircuitWait, c.Wait))
	})
	if e != api.OK {
		return nil, e
	}
	return l, api.OK
}

// FormatCircuit is the string of a circuit.
func FormatCircuit(c api.CircuitLadder) string {
	return joined(partsOf(c), func(p api.CircuitPart) string {
		return wordFor(p.Shunt, "p", "s") + " " + strconv.Itoa(p.Resistance) + " " + strconv.Itoa(p.Inductance) + " " + strconv.Itoa(p.Elastance)
	})
}

// ParseCircuit is the circuit with this string.
func ParseCircuit(s string) (api.CircuitLadder, api.Errno) {
	l, e := parsed(s, partOf)
	if e != api.OK {
		return api.CircuitLadder{}, e
	}
	c := api.CircuitLadder{Load: l[0], Parts: l[1:]}
	if _, e := CheckCircuit(c); e != api.OK {
		return api.CircuitLadder{}, e
	}
	return c, api.OK
}
