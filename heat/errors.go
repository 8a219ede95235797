package heat

import (
	"slices"

	"martensite/api"
)

// errorIf is the error if it applies.
func errorIf(applies bool, f api.Errno) api.Errno {
	if applies {
		return f
	}
	return api.OK
}

// firstOf is the first error of several that may be OK.
func firstOf(errors ...api.Errno) api.Errno {
	for _, f := range errors {
		if f != api.OK {
			return f
		}
	}
	return api.OK
}

// outside asks of a number whether it is not from lo to hi.
func outside(lo, hi int) func(int) bool {
	return func(n int) bool { return n < lo || n > hi }
}

// rangeError is ErrRange if one of the numbers is not from lo to hi.
func rangeError(lo, hi int, numbers ...int) api.Errno {
	return errorIf(slices.ContainsFunc(numbers, outside(lo, hi)), api.ErrRange)
}

// orderError is ErrOrder if a range ends before it begins.
func orderError(r api.Range) api.Errno { return errorIf(r.Lo > r.Hi, api.ErrOrder) }

// rangesError is the first error of ranges: ErrRange if an end is not from 0 to most, ErrOrder if one ends before it begins.
func rangesError(most int, ranges []api.Range) api.Errno {
	for _, r := range ranges {
		if f := firstOf(rangeError(0, most, r.Lo, r.Hi), orderError(r)); f != api.OK {
			return f
		}
	}
	return api.OK
}

// ticksError is ErrLarge if there are too many ticks.
func ticksError(ticks int) api.Errno { return errorIf(ticks > api.MaxHeatTicks, api.ErrLarge) }

// kelvinError is the error of temperatures.
func kelvinError(kelvins ...int) api.Errno {
	return rangeError(api.MinHeatKelvin, api.MaxHeatKelvin, kelvins...)
}

// lawError is ErrMissing if a set-up does not have one of the laws.
func lawError(s api.HeatSetup, laws ...int) api.Errno {
	return errorIf(slices.ContainsFunc(laws, outside(0, len(s.Laws)-1)), api.ErrMissing)
}
