package shop_test

import (
	"math"
	"math/rand"
	"slices"
	"testing"

	"martensite/api"
	"martensite/shop"
)

// allOrders are all orders of the jobs that are left, after those that were chosen; the first ones first.
func allOrders(chosen, left []int) [][]int {
	if len(left) == 0 {
		return [][]int{slices.Clone(chosen)}
	}
	var l [][]int
	for i, next := range left {
		l = append(l, allOrders(append(slices.Clone(chosen), next), slices.Concat(left[:i], left[i+1:]))...)
	}
	return l
}

// indexes are the numbers from 0 on, so many of them.
func indexes(count int) []int {
	var l []int
	for i := range count {
		l = append(l, i)
	}
	return l
}

// P9.1, examples 1 and 2, edge cases of one job and of changes that take no ticks
func TestBestOf(t *testing.T) {
	free := func(start int) api.ShopChanges { return changes(start, ints(0, 0), ints(0, 0)) }
	for _, x := range []struct {
		l           []api.ShopJob
		c           api.ShopChanges
		order       []int
		late, count int
	}{
		{exampleJobs(), exampleChanges(), ints(0, 1, 2), 2, 2},
		{jobs(job("a", 0, 5, 6)), exampleChanges(), ints(0), -1, 0},
		{jobs(job("a", 1, 5, 6)), exampleChanges(), ints(0), 1, 1},
		// All orders are as late: the one with the fewest changes, and then the first one.
		{jobs(job("a", 0, 2, 0), job("b", 1, 2, 0), job("c", 0, 2, 0)), free(0), ints(0, 2, 1), 6, 1},
		{jobs(job("a", 0, 2, 0), job("b", 1, 2, 0), job("c", 0, 2, 0)), free(1), ints(1, 0, 2), 6, 1},
		{jobs(job("a", 0, 2, 0), job("b", 0, 2, 0), job("c", 0, 2, 0)), free(1), ints(0, 1, 2), 6, 1},
		// Less late with more changes.
		{jobs(job("a", 0, 2, 6), job("b", 1, 2, 2), job("c", 0, 2, 9)), free(0), ints(1, 0, 2), 0, 2},
	} {
		order, late, n, e := shop.BestOf(x.l, x.c)
		want(t, "BestOf", append(order, late, n), e, append(x.order, x.late, x.count), api.OK)
	}
}

// P9.1, P9.7: of all orders the best one; its lateness is at least the bound
func TestBestByDefinition(t *testing.T) {
	above := 0
	plans(240, func(_ *rand.Rand, l []api.ShopJob, c api.ShopChanges) {
		var best []int
		latest, fewest := math.MaxInt, 0
		for _, order := range allOrders(nil, indexes(len(l))) {
			_, late, count := byDefinition(l, c, order)
			if late < latest || late == latest && count < fewest {
				best, latest, fewest = order, late, count
			}
		}
		order, late, n, e := shop.BestOf(l, c)
		want(t, "BestOf", append(slices.Clone(order), late, n), e, append(best, latest, fewest), api.OK)
		itsLate, itsChanges, e := shop.LateBy(l, c, order)
		want(t, "LateBy", ints(itsLate, itsChanges), e, ints(late, n), api.OK)
		bound, _, _ := shop.BoundOf(l)
		if late < bound {
			t.Errorf("BestOf %v, %v: %d is less than the bound %d", l, c, late, bound)
		}
		if late > bound {
			above++
		}
	})
	if above < 50 {
		t.Errorf("too few lates above the bound: %d", above)
	}
}

// P9.7: without any ticks of changes the lateness is the bound
func TestBestWithoutChanges(t *testing.T) {
	plans(240, func(_ *rand.Rand, l []api.ShopJob, c api.ShopChanges) {
		for _, row := range c.Ticks {
			clear(row)
		}
		_, late, _, e := shop.BestOf(l, c)
		bound, _, f := shop.BoundOf(l)
		want(t, "BestOf", late, e, bound, f)
	})
}

// lastBound is the greatest bound from all jobs that are due at some tick at the latest.
func lastBound(l []api.ShopJob) int {
	bound := math.MinInt
	for _, x := range l {
		sum := 0
		for _, y := range l {
			if y.Due <= x.Due {
				sum += y.Ticks
			}
		}
		bound = max(bound, sum-x.Due)
	}
	return bound
}

// P9.1, P9.8, example 3: the bound of jobs is proved by its set, and no set has a greater one
func TestBoundOf(t *testing.T) {
	for _, x := range []struct {
		l     []api.ShopJob
		bound int
	}{
		{exampleJobs(), 0},
		{jobs(job("a", 0, 5, 6)), -1},
		{jobs(job("a", 0, 1, 100000)), -99999},
		{jobs(job("a", 0, 100000, 0), job("b", 0, 100000, 100000)), 100000},
	} {
		n, set, e := shop.BoundOf(x.l)
		want(t, "BoundOf", n, e, x.bound, api.OK)
		n, e = shop.CheckBound(x.l, set)
		want(t, "CheckBound", n, e, x.bound, api.OK)
	}
	plans(600, func(_ *rand.Rand, l []api.ShopJob, _ api.ShopChanges) {
		bound, proof, e := shop.BoundOf(l)
		want(t, "BoundOf", bound, e, lastBound(l), api.OK)
		n, e := shop.CheckBound(l, proof)
		want(t, "CheckBound", n, e, bound, api.OK)
		for bits := 1; bits < 1<<len(l); bits++ {
			var set []int
			sum, due := 0, math.MinInt
			for i, x := range l {
				if bits&(1<<i) != 0 {
					set = append(set, i)
					sum += x.Ticks
					due = max(due, x.Due)
				}
			}
			n, e := shop.CheckBound(l, set)
			want(t, "CheckBound", n, e, sum-due, api.OK)
			if n > bound {
				t.Errorf("BoundOf %v: %d, but from %v %d", l, bound, set, n)
			}
		}
	})
}

// P9.1, example 3
func TestCheckBound(t *testing.T) {
	for _, x := range []struct {
		set   []int
		bound int
		e     api.Errno
	}{
		{ints(0), -1, api.OK},
		{ints(0, 1), 0, api.OK},
		{ints(0, 1, 2), -2, api.OK},
		{ints(1), -5, api.OK},
		{ints(2), -11, api.OK},
		{nil, 0, api.ErrShape},
		{ints(), 0, api.ErrShape},
		{ints(3), 0, api.ErrMissing},
		{ints(-1), 0, api.ErrMissing},
		{extremes(), 0, api.ErrMissing},
		{ints(0, extremes()[1]), 0, api.ErrMissing},
		{ints(0, -1), 0, api.ErrMissing},
		{ints(0, 1, 2, 3), 0, api.ErrMissing},
		{ints(0, 0), 0, api.ErrOrder},
		{ints(1, 0), 0, api.ErrOrder},
		{ints(1, 0, 3), 0, api.ErrOrder},
		{ints(0, 2, 1), 0, api.ErrOrder},
	} {
		n, e := shop.CheckBound(exampleJobs(), x.set)
		want(t, "CheckBound", n, e, x.bound, x.e)
	}
	for _, x := range allBadJobs() {
		n, set, e := shop.BoundOf(x.l)
		want(t, "BoundOf", append(set, n), e, ints(0), x.e)
		for _, set := range [][]int{nil, ints(9), ints(0)} {
			n, e := shop.CheckBound(x.l, set)
			want(t, "CheckBound", n, e, 0, x.e)
		}
	}
}

// R3: no argument is modified
func TestArgumentsOfOrders(t *testing.T) {
	l, c, order := exampleJobs(), exampleChanges(), ints(2, 0, 1)
	shop.TimesOf(l, c, order)
	shop.LateBy(l, c, order)
	shop.CheckBound(l, ints(0, 1))
	best, _, _, _ := shop.BestOf(l, c)
	_, set, _ := shop.BoundOf(l)
	clear(best)
	clear(set)
	want(t, "jobs", l, api.OK, exampleJobs(), api.OK)
	want(t, "changes", c, api.OK, exampleChanges(), api.OK)
	want(t, "order", order, api.OK, ints(2, 0, 1), api.OK)
	best, _, _, e := shop.BestOf(l, c)
	want(t, "BestOf", best, e, ints(0, 1, 2), api.OK)
}
