package field

import (
	"slices"

	"martensite/api"
)

// errorIf is the error if it applies.
func errorIf(applies bool, e api.Errno) api.Errno {
	if applies {
		return e
	}
	return api.OK
}

// firstOf is the first error of several that may be OK.
func firstOf(errors ...api.Errno) api.Errno {
	for _, e := range errors {
		if e != api.OK {
			return e
		}
	}
	return api.OK
}

// outside asks of a number whether it is not from lo to hi.
func outside(lo, hi int) func(int) bool {
	return func(n int) bool { return n < lo || n > hi }
}

// rangeError is ErrRange if one of the numbers is not from lo to hi.
func rangeError(lo, hi int, numbers ...int) api.Errno {
	return errorIf(slices.ContainsFunc(numbers, outside(lo, hi)), api.ErrRange)
}

// endsError is ErrRange if an end of a range is not from lo to hi, and ErrOrder if the range ends before it begins.
func endsError(lo, hi int, r api.Range) api.Errno {
	ends := [2]int{r.Lo, r.Hi}
	return firstOf(
		rangeError(lo, hi, ends[:]...),
		errorIf(ends[0] > ends[1], api.ErrOrder))
}

// totalError is the error of totals.
func totalError(totals ...int) api.Errno {
	return rangeError(0, api.MaxFieldWatts, totals...)
}

// percentError is the error of a percentage.
func percentError(percent int) api.Errno { return rangeError(1, 100, percent) }

// shellError is ErrMissing if a ladder does not have one of the shells.
func shellError(x api.FieldLadder, shells ...int) api.Errno {
	return errorIf(slices.ContainsFunc(shells, outside(0, len(x.Shells)-1)), api.ErrMissing)
}
