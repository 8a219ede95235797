package shop

import (
	"slices"

	"martensite/api"
)

// errorIf is the error if it applies.
func errorIf(applies bool, e api.Errno) api.Errno {
	if applies {
		return e
	}
	return api.OK
}

// firstOf is the first error of several that may be OK.
func firstOf(errors ...api.Errno) api.Errno {
	for _, e := range errors {
		if e != api.OK {
			return e
		}
	}
	return api.OK
}

// firstError is the first of so many indexes whose item has an error, and this error; 0 and OK if no item has one. The items are asked in their order, and none after the first error, so that what is asked may keep what it has accepted.
func firstError(count int, errorOf func(int) api.Errno) (int, api.Errno) {
	for i := range count {
		if e := errorOf(i); e != api.OK {
			return i, e
		}
	}
	return 0, api.OK
}

// countError is ErrShape if there are fewer items than the least number of them, and ErrLarge if there are more than the greatest one.
func countError(count, least, most int) api.Errno {
	return firstOf(
		errorIf(count < least, api.ErrShape),
		errorIf(count > most, api.ErrLarge))
}

// rangeError is ErrRange if one of the numbers is not from lo to hi.
func rangeError(lo, hi int, numbers ...int) api.Errno {
	outside := func(n int) bool { return n < lo || n > hi }
	return errorIf(slices.ContainsFunc(numbers, outside), api.ErrRange)
}

// sizeError is ErrRange if one of the numbers is greater in size than most.
func sizeError(most int, numbers ...int) api.Errno { return rangeError(-most, most, numbers...) }

// limitsError is the error of limits, and of the range of a concentration.
func limitsError(r api.Range) api.Errno {
	return firstOf(
		sizeError(api.MaxShopValue, r.Lo, r.Hi),
		errorIf(r.Lo > r.Hi, api.ErrOrder))
}

// nameError is ErrName if one of the strings is not a name.
func nameError(names ...string) api.Errno {
	isNone := func(s string) bool { return !isName(s) }
	return errorIf(slices.ContainsFunc(names, isNone), api.ErrName)
}

// isLetter is whether a byte is a letter.
func isLetter(b byte) bool { return b >= 'a' && b <= 'z' || b >= 'A' && b <= 'Z' }

// isDigit is whether a byte is a digit.
func isDigit(b byte) bool { return b >= '0' && b <= '9' }

// isName is whether a string is a name.
func isName(s string) bool {
	if s == "" || len(s) > api.MaxName || !isLetter(s[0]) {
		return false
	}
	for i := range len(s) {
		if !isLetter(s[i]) && !isDigit(s[i]) && s[i] != '-' {
			return false
		}
	}
	return true
}
