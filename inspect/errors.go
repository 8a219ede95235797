package inspect

import (
	"slices"

	"martensite/api"
)

// errorIf is the error if it applies.
func errorIf(applies bool, e api.Errno) api.Errno {
	if applies {
		return e
	}
	return api.OK
}

// firstOf is the first error of several that may be OK.
func firstOf(errors ...api.Errno) api.Errno {
	for _, e := range errors {
		if e != api.OK {
			return e
		}
	}
	return api.OK
}

// firstError is the index of the first item with an error, and this error; 0 and OK if no item has one. The error of an item is asked for by its index, too, as it may depend on the item before.
func firstError[T any](items []T, errorOf func(int, T) api.Errno) (int, api.Errno) {
	for i, x := range items {
		if e := errorOf(i, x); e != api.OK {
			return i, e
		}
	}
	return 0, api.OK
}

// countError is ErrShape if there are fewer items than the least number of them, and ErrLarge if there are more than the greatest one.
func countError(count, least, most int) api.Errno {
	return firstOf(
		errorIf(count < least, api.ErrShape),
		errorIf(count > most, api.ErrLarge))
}

// rangeError is ErrRange if one of the numbers is not from lo to hi.
func rangeError(lo, hi int, numbers ...int) api.Errno {
	outside := func(n int) bool { return n < lo || n > hi }
	return errorIf(slices.ContainsFunc(numbers, outside), api.ErrRange)
}

// sizeError is ErrRange if one of the numbers is greater in size than most.
func sizeError(most int, numbers ...int) api.Errno { return rangeError(-most, most, numbers...) }

// orderError is ErrOrder if a range ends before it begins.
func orderError(r api.Range) api.Errno { return errorIf(r.Lo > r.Hi, api.ErrOrder) }

// endsError is the error of a range.
func endsError(r api.Range) api.Errno {
	return firstOf(rangeError(0, api.MaxInspectDepth, r.Lo, r.Hi), orderError(r))
}

// riskError is the error of a risk.
func riskError(risk int) api.Errno { return rangeError(0, api.InspectThousand-1, risk) }
