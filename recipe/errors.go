package recipe

import (
	"slices"

	"martensite/api"
)

// errorIf is the error if it applies.
func errorIf(applies bool, e api.Errno) api.Errno {
	if applies {
		return e
	}
	return api.OK
}

// firstOf is the first error of several that may be OK.
func firstOf(errors ...api.Errno) api.Errno {
	for _, e := range errors {
		if e != api.OK {
			return e
		}
	}
	return api.OK
}

// rangeError is ErrRange if one of the numbers is not from lo to hi.
func rangeError(lo, hi int, numbers ...int) api.Errno {
	outside := func(n int) bool { return n < lo || n > hi }
	return errorIf(slices.ContainsFunc(numbers, outside), api.ErrRange)
}

// endsError is ErrRange if an end of a range is not from 0 to most, and ErrOrder if the range ends before it begins.
func endsError(most int, r api.Range) api.Errno {
	return firstOf(
		rangeError(0, most, r.Lo, r.Hi),
		errorIf(r.Lo > r.Hi, api.ErrOrder))
}

// kelvinError is the error of a temperature.
func kelvinError(kelvin int) api.Errno {
	return rangeError(api.MinHeatKelvin, api.MaxHeatKelvin, kelvin)
}
