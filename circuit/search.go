package circuit

import (
	"iter"
	"slices"

	"martensite/api"
)

// reached is all that is reached from the first one, with what is before it on its earliest way (the first one itself is before the first one).
// It goes on from what it found in the order in which it was found, so of several shortest ways the earliest is the one whose steps are yielded first.
func reached[T comparable](first T, after func(T) iter.Seq[T]) map[T]T {
	before := map[T]T{first: first}
	for queue := []T{first}; len(queue) > 0; queue = queue[1:] {
		for next := range after(queue[0]) {
			if _, known := before[next]; !known {
				before[next] = queue[0]
				queue = append(queue, next)
			}
		}
	}
	return before
}

// wayTo is the earliest way to what was reached, from the first one on.
func wayTo[T comparable](before map[T]T, last T) []T {
	way := []T{last}
	for x := last; before[x] != x; {
		x = before[x]
		way = append(way, x)
	}
	slices.Reverse(way)
	return way
}

// waysTo are the earliest ways to all that was reached and is an end, in no order.
func waysTo[T comparable](before map[T]T, end func(T) bool) [][]T {
	var ways [][]T
	for x := range before {
		if end(x) {
			ways = append(ways, wayTo(before, x))
		}
	}
	return ways
}

// inOrder are all items that were reached, in order.
func inOrder[T comparable](before map[T]T, compare func(T, T) int) []T {
	var items []T
	for x := range before {
		items = append(items, x)
	}
	slices.SortFunc(items, compare)
	return items
}

// proofError accepts items as a proof: the first one is among them, none is an end, and all that comes after one is among them. It does not search.
func proofError[T comparable](items []T, first T, end func(T) bool, after func(T) iter.Seq[T]) (int, api.Errno) {
	among := map[T]bool{}
	for _, x := range items {
		among[x] = true
	}
	if !among[first] {
		return 0, api.ErrGap
	}
	return firstError(items, func(x T) api.Errno {
		if end(x) {
			return api.ErrBreak
		}
		for next := range after(x) {
			if !among[next] {
				return api.ErrGap
			}
		}
		return api.OK
	})
}
