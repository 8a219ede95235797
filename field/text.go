package field

import (
	"strconv"
	"strings"

	"martensite/api"
)

// number is a number of at most 3 digits.
func number(s string) (int, bool) {
	if s == "" || len(s) > 3 || len(s) > 1 && s[0] == '0' {
		return 0, false
	}
	n := 0
	for i := range len(s) {
		if s[i] < '0' || s[i] > '9' {
			return 0, false
		}
		n = 10*n + int(s[i]-'0')
	}
	return n, true
}

// shellOf is the shell of a string.
func shellOf(s string) (api.FieldShell, bool) {
	words := strings.Split(s, " ")
	var numbers [3]int
	if len(words) != len(numbers) {
		return api.FieldShell{}, false
	}
	for i, word := range words {
		n, ok := number(word)
		if !ok {
			return api.FieldShell{}, false
		}
		numbers[i] = n
	}
	return api.FieldShell{Conductance: numbers[0], Cold: numbers[1], Hot: numbers[2]}, true
}

// ladderOf is the ladder of the string of its turns and those of its shells.
func ladderOf(turns string, shells []string) (api.FieldLadder, bool) {
	n, ok := number(turns)
	if !ok {
		return api.FieldLadder{}, false
	}
	x := api.FieldLadder{Turns: n}
	for _, s := range shells {
		shell, ok := shellOf(s)
		if !ok {
			return api.FieldLadder{}, false
		}
		x.Shells = append(x.Shells, shell)
	}
	return x, true
}

// FormatLadder is the string of a ladder.
func FormatLadder(x api.FieldLadder) string {
	items := []string{strconv.Itoa(x.Turns)}
	for _, s := range x.Shells {
		items = append(items, strconv.Itoa(s.Conductance)+" "+strconv.Itoa(s.Cold)+" "+strconv.Itoa(s.Hot))
	}
	return strings.Join(items, ";")
}

// ParseLadder is the ladder with this string.
func ParseLadder(s string) (api.FieldLadder, api.Errno) {
	if len(s) > api.MaxString {
		return api.FieldLadder{}, api.ErrLarge
	}
	items := strings.Split(s, ";")
	x, ok := ladderOf(items[0], items[1:])
	if !ok {
		return api.FieldLadder{}, api.ErrSyntax
	}
	if e := ladderError(x); e != api.OK {
		return api.FieldLadder{}, e
	}
	return x, api.OK
}
