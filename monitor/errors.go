package monitor

import (
	"slices"

	"martensite/api"
)

// errorIf is the error if it applies.
func errorIf(applies bool, e api.Errno) api.Errno {
	if applies {
		return e
	}
	return api.OK
}

// firstOf is the first error of several that may be OK.
func firstOf(errors ...api.Errno) api.Errno {
	for _, e := range errors {
		if e != api.OK {
			return e
		}
	}
	return api.OK
}

// firstError is the index of the first item with an error, and this error; 0 and OK if no item has one. The items are asked in their order, and none after the first error, so that what is asked may keep what it has accepted.
func firstError[T any](items []T, errorOf func(int, T) api.Errno) (int, api.Errno) {
	for i, x := range items {
		if e := errorOf(i, x); e != api.OK {
			return i, e
		}
	}
	return 0, api.OK
}

// rangeError is ErrRange if one of the numbers is not from lo to hi.
func rangeError(lo, hi int, numbers ...int) api.Errno {
	outside := func(n int) bool { return n < lo || n > hi }
	return errorIf(slices.ContainsFunc(numbers, outside), api.ErrRange)
}

// valueError is ErrRange if one of the values is too great in size.
func valueError(values ...int) api.Errno {
	return rangeError(-api.MaxMonitorValue, api.MaxMonitorValue, values...)
}

// numberError is the error of the number of a part.
func numberError(part int) api.Errno { return rangeError(0, api.MaxMonitorNumber, part) }

// isLetter is whether a byte is a letter.
func isLetter(b byte) bool { return b >= 'a' && b <= 'z' || b >= 'A' && b <= 'Z' }

// isDigit is whether a byte is a digit.
func isDigit(b byte) bool { return b >= '0' && b <= '9' }

// isName is whether a string is a name.
func isName(s string) bool {
	if s == "" || len(s) > api.MaxName || !isLetter(s[0]) {
		return false
	}
	for i := range len(s) {
		if !isLetter(s[i]) && !isDigit(s[i]) && s[i] != '-' {
			return false
		}
	}
	return true
}
