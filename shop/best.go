package shop

import (
	"iter"
	"math"
	"slices"

	"martensite/api"
)

// orders yields all orders of so many jobs, the lexicographically first one first.
func orders(jobs int) iter.Seq[[]int] {
	return func(yield func([]int) bool) {
		var order []int
		for i := range jobs {
			order = append(order, i)
		}
		for more := true; more; more = advance(order) {
			if !yield(slices.Clone(order)) {
				return
			}
		}
	}
}

// advance makes an order the lexicographically next one; false if it is the last one.
func advance(order []int) bool {
	at := len(order) - 2
	for at >= 0 && order[at] > order[at+1] {
		at--
	}
	if at < 0 {
		return false
	}
	// What follows falls, so the last number in it that is greater is the least one that is.
	with := len(order) - 1
	for order[with] < order[at] {
		with--
	}
	order[at], order[with] = order[with], order[at]
	slices.Reverse(order[at+1:])
	return true
}

// sets yields all sets of so many jobs that have at least one.
func sets(jobs int) iter.Seq[[]int] {
	return func(yield func([]int) bool) {
		for bits := 1; bits < 1<<jobs; bits++ {
			var set []int
			for i := range jobs {
				if bits>>i&1 == 1 {
					set = append(set, i)
				}
			}
			if !yield(set) {
				return
			}
		}
	}
}

// boundFrom is the bound from a set of jobs.
func boundFrom(l []api.ShopJob, set []int) int {
	ticks, due := 0, 0
	for _, i := range set {
		ticks += l[i].Ticks
		due = max(due, l[i].Due)
	}
	return ticks - due
}

// BestOf is the best order, its lateness and its changes.
func BestOf(l []api.ShopJob, c api.ShopChanges) ([]int, int, int, api.Errno) {
	if e := lineError(l, c); e != api.OK {
		return nil, 0, 0, e
	}
	w := lineOf(l, c)
	best := course{late: math.MaxInt}
	var first []int
	for order := range orders(len(l)) {
		if x := w.courseOf(order); x.isBetter(best) {
			best, first = x, order
		}
	}
	return first, best.late, best.changes, api.OK
}

// BoundOf is the bound of jobs, and a set with this bound.
func BoundOf(l []api.ShopJob) (int, []int, api.Errno) {
	if e := jobsError(l); e != api.OK {
		return 0, nil, e
	}
	bound := math.MinInt
	var proof []int
	for set := range sets(len(l)) {
		if n := boundFrom(l, set); n > bound {
			bound, proof = n, set
		}
	}
	return bound, proof, api.OK
}

// CheckBound is the bound that a set of jobs proves.
func CheckBound(l []api.ShopJob, set []int) (int, api.Errno) {
	e := firstOf(
		jobsError(l),
		errorIf(len(set) == 0, api.ErrShape))
	if e != api.OK {
		return 0, e
	}
	_, e = firstError(len(set), func(i int) api.Errno {
		return firstOf(
			errorIf(set[i] < 0 || set[i] >= len(l), api.ErrMissing),
			errorIf(i > 0 && set[i] <= set[i-1], api.ErrOrder))
	})
	if e != api.OK {
		return 0, e
	}
	return boundFrom(l, set), api.OK
}
