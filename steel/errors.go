package steel

import (
	"slices"

	"martensite/api"
)

// widest is by how many kelvins the ends of a range of temperatures may differ.
const widest = 50

// fault is the index of an item, and its error.
type fault struct {
	index int
	e     api.Errno
}

// errorIf is the error if it applies.
func errorIf(applies bool, e api.Errno) api.Errno {
	if applies {
		return e
	}
	return api.OK
}

// firstOf is the first error of several that may be OK.
func firstOf(errors ...api.Errno) api.Errno {
	for _, e := range errors {
		if e != api.OK {
			return e
		}
	}
	return api.OK
}

// firstFault is the first fault of several whose errors may be OK.
func firstFault(faults ...fault) (int, api.Errno) {
	for _, f := range faults {
		if f.e != api.OK {
			return f.index, f.e
		}
	}
	return 0, api.OK
}

// firstError is the index of the first item with an error, and this error; 0 and OK if no item has one.
func firstError[T any](items []T, errorOf func(T) api.Errno) (int, api.Errno) {
	for i, x := range items {
		if e := errorOf(x); e != api.OK {
			return i, e
		}
	}
	return 0, api.OK
}

// rangeError is ErrRange if one of the numbers is not from lo to hi.
func rangeError(lo, hi int, numbers ...int) api.Errno {
	outside := func(n int) bool { return n < lo || n > hi }
	return errorIf(slices.ContainsFunc(numbers, outside), api.ErrRange)
}

// endsError is ErrRange if an end of a range is not from lo to hi, and ErrOrder if the range ends before it begins.
func endsError(lo, hi int, r api.Range) api.Errno {
	return firstOf(
		rangeError(lo, hi, r.Lo, r.Hi),
		errorIf(r.Lo > r.Hi, api.ErrOrder))
}

// kelvinError is the error of a temperature.
func kelvinError(kelvin int) api.Errno { return rangeError(1, api.MaxSteelKelvin, kelvin) }

// kelvinsError is the error of a range of temperatures.
func kelvinsError(r api.Range) api.Errno {
	return firstOf(
		endsError(1, api.MaxSteelKelvin, r),
		errorIf(r.Hi-r.Lo > widest, api.ErrLarge))
}

// hardError is the error of a range of the hardness.
func hardError(r api.Range) api.Errno { return endsError(0, api.MaxSteelHardness, r) }

// curveError is the error of a curve of temperatures, or of ranges of them.
func curveError[T any](curve []T, errorOf func(T) api.Errno) api.Errno {
	_, e := firstError(curve, errorOf)
	return firstOf(errorIf(len(curve) > api.MaxSteelTicks, api.ErrLarge), e)
}

// curvesError is the error of curves of temperatures, or of ranges of them.
func curvesError[T any](curves [][]T, errorOf func(T) api.Errno) api.Errno {
	_, e := firstError(curves, func(curve []T) api.Errno { return curveError(curve, errorOf) })
	return firstOf(errorIf(len(curves) > api.MaxSteelCurves, api.ErrLarge), e)
}

// isLetter is whether a byte is a letter.
func isLetter(b byte) bool { return b >= 'a' && b <= 'z' || b >= 'A' && b <= 'Z' }

// isDigit is whether a byte is a digit.
func isDigit(b byte) bool { return b >= '0' && b <= '9' }

// isName is whether a string is a name.
func isName(s string) bool {
	if s == "" || len(s) > api.MaxName || !isLetter(s[0]) {
		return false
	}
	for i := range len(s) {
		if !isLetter(s[i]) && !isDigit(s[i]) && s[i] != '-' {
			return false
		}
	}
	return true
}

// namesError asks of names, one after the other, for the error of each: ErrName if it is not a name, ErrExists if an earlier one is the same.
func namesError() func(string) api.Errno {
	seen := map[string]bool{}
	return func(name string) api.Errno {
		e := firstOf(
			errorIf(!isName(name), api.ErrName),
			errorIf(seen[name], api.ErrExists))
		if e == api.OK {
			seen[name] = true
		}
		return e
	}
}
