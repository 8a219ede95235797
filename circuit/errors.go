package circuit

import (
	"iter"

	"martensite/api"
)

// errorIf is the error if it applies.
func errorIf(applies bool, e api.Errno) api.Errno {
	if applies {
		return e
	}
	return api.OK
}

// firstOf is the first error of several that may be OK.
func firstOf(errors ...api.Errno) api.Errno {
	for _, e := range errors {
		if e != api.OK {
			return e
		}
	}
	return api.OK
}

// firstError is the index of the first item with an error, and this error; 0 and OK if no item has one.
func firstError[T any](items []T, errorOf func(T) api.Errno) (int, api.Errno) {
	for i, x := range items {
		if e := errorOf(x); e != api.OK {
			return i, e
		}
	}
	return 0, api.OK
}

// within is whether a number is in a range.
func within(r api.Range, n int) bool { return r.Lo <= n && n <= r.Hi }

// rangeError is ErrRange if one of the numbers is not from lo to hi.
func rangeError(lo, hi int, numbers ...int) api.Errno {
	_, e := firstError(numbers, func(n int) api.Errno {
		return errorIf(n < lo || n > hi, api.ErrRange)
	})
	return e
}

// orderError is ErrOrder if one of the ranges ends before it begins.
func orderError(ranges ...api.Range) api.Errno {
	_, e := firstError(ranges, func(r api.Range) api.Errno {
		return errorIf(r.Lo > r.Hi, api.ErrOrder)
	})
	return e
}

// doubleError is ErrDouble if an item has been seen, and remembers it.
func doubleError[T comparable](seen map[T]bool, x T) api.Errno {
	if seen[x] {
		return api.ErrDouble
	}
	seen[x] = true
	return api.OK
}

// numbersOf yields the numbers of a range.
func numbersOf(r api.Range) iter.Seq[int] {
	return func(yield func(int) bool) {
		for n := r.Lo; n <= r.Hi; n++ {
			if !yield(n) {
				return
			}
		}
	}
}
