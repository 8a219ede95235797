package shop_test

import (
	"math/rand"
	"slices"
	"testing"

	"martensite/api"
	"martensite/shop"
)

// badJobs are jobs with an error, and its index.
type badJobs struct {
	l     []api.ShopJob
	index int
	e     api.Errno
}

// allBadJobs are jobs with errors.
func allBadJobs() []badJobs {
	a, none := job("a", 0, 5, 6), job("", -1, 0, -1)
	l := []badJobs{
		{nil, 0, api.ErrShape},
		{jobs(), 0, api.ErrShape},
		{slices.Repeat(jobs(none), 8), 0, api.ErrLarge},
		{slices.Repeat(jobs(a), 8), 0, api.ErrLarge},
		{jobs(none), 0, api.ErrName},
		{jobs(a, none), 1, api.ErrName},
		{jobs(a, job("a", -1, 0, -1)), 1, api.ErrExists},
		{jobs(a, job("b", 1, 1, 1), job("c", 1, 1, 1), a), 3, api.ErrExists},
		{jobs(a, job("b", -1, 1, 1), none), 1, api.ErrRange},
		{jobs(job("a", 5, 1, 1), job("a", 0, 1, 1)), 0, api.ErrRange},
	}
	for _, name := range noNames() {
		l = append(l, badJobs{jobs(a, job(name, 0, 1, 1)), 1, api.ErrName})
	}
	for _, setup := range append(extremes(), -1, 5) {
		l = append(l, badJobs{jobs(a, job("b", setup, 1, 1)), 1, api.ErrRange})
	}
	for _, ticks := range append(extremes(), -1, 0, 100001) {
		l = append(l, badJobs{jobs(a, job("b", 0, ticks, 1)), 1, api.ErrRange})
	}
	for _, due := range append(extremes(), -1, 100001) {
		l = append(l, badJobs{jobs(a, job("b", 0, 1, due)), 1, api.ErrRange})
	}
	return l
}

// goodJobs are seven jobs with the least and the greatest numbers.
func goodJobs() []api.ShopJob {
	return jobs(job("a", 0, 1, 0), job("A", 4, 100000, 100000), job("abcdefghijkl", 1, 1, 100000), job("z-9", 2, 100000, 0), job("Z--", 3, 1, 1), job("b", 0, 1, 1), job("b0", 0, 1, 1))
}

// P9.1
func TestCheckJobs(t *testing.T) {
	for _, l := range [][]api.ShopJob{exampleJobs(), goodJobs(), jobs(job("a", 0, 1, 0))} {
		i, e := shop.CheckJobs(l)
		want(t, "CheckJobs", i, e, 0, api.OK)
	}
	for _, x := range allBadJobs() {
		i, e := shop.CheckJobs(x.l)
		want(t, "CheckJobs", i, e, x.index, x.e)
	}
}

// badChanges are changes with an error, and its index.
type badChanges struct {
	c     api.ShopChanges
	index int
	e     api.Errno
}

// allBadChanges are changes with errors.
func allBadChanges() []badChanges {
	l := []badChanges{
		{changes(0), 0, api.ErrShape},
		{changes(-1), 0, api.ErrShape},
		{changes(-1, nil, nil, nil, nil, nil, nil), 0, api.ErrLarge},
		{changes(-1, nil), 0, api.ErrShape},
		{changes(-1, ints(0, 2), ints(-1)), 1, api.ErrShape},
		{changes(-1, ints(0, 2), ints(-1, 0, 0)), 1, api.ErrShape},
		{changes(0, ints(0, 2), ints(1, 1), ints(1, 1, 0)), 0, api.ErrShape},
		{changes(-1, ints(0, 2), ints(2, 1)), 1, api.ErrForm},
		{changes(-1, ints(1, -1), ints(2, 0)), 0, api.ErrForm},
		{changes(-1, ints(0, -1), ints(2, 1)), 0, api.ErrRange},
		{changes(-1, ints(0, 2), ints(2, -1)), 1, api.ErrRange},
		{changes(-1, ints(0, 2), ints(-1, 1)), 1, api.ErrRange},
		{changes(1, ints(100000)), 0, api.ErrForm},
		{changes(1, ints(100001)), 0, api.ErrRange},
	}
	for _, ticks := range append(extremes(), -1, 100001) {
		l = append(l, badChanges{changes(2, ints(0, 2, 2), ints(2, 0, 2), ints(2, ticks, 0)), 2, api.ErrRange})
	}
	for _, start := range append(extremes(), -1, 2, 5) {
		l = append(l, badChanges{changes(start, ints(0, 2), ints(2, 0)), 0, api.ErrMissing})
	}
	return l
}

// P9.1
func TestCheckChanges(t *testing.T) {
	for _, c := range []api.ShopChanges{
		exampleChanges(),
		changes(0, ints(0)),
		changes(1, ints(0, 100000), ints(0, 0)),
		changes(4, slices.Repeat([][]int{make([]int, 5)}, 5)...),
	} {
		i, e := shop.CheckChanges(c)
		want(t, "CheckChanges", i, e, 0, api.OK)
	}
	for _, x := range allBadChanges() {
		i, e := shop.CheckChanges(x.c)
		want(t, "CheckChanges", i, e, x.index, x.e)
	}
}

// noPlan is asked with jobs, changes and an order that have an error.
func noPlan(t *testing.T, l []api.ShopJob, c api.ShopChanges, order []int, f api.Errno) {
	t.Helper()
	times, e := shop.TimesOf(l, c, order)
	want(t, "TimesOf", times, e, ints(), f)
	late, n, e := shop.LateBy(l, c, order)
	want(t, "LateBy", ints(late, n), e, ints(0, 0), f)
}

// P9.1: the errors of jobs with changes, and of the order
func TestErrorsOfOrders(t *testing.T) {
	bad := changes(-1, ints(1))
	for _, x := range allBadJobs() {
		for _, c := range []api.ShopChanges{exampleChanges(), bad} {
			noPlan(t, x.l, c, ints(0, 0), x.e)
			order, late, n, e := shop.BestOf(x.l, c)
			want(t, "BestOf", append(order, late, n), e, ints(0, 0), x.e)
		}
	}
	missing := jobs(job("a", 0, 1, 1), job("b", 4, 1, 1))
	for _, x := range allBadChanges() {
		noPlan(t, missing, x.c, ints(0, 0, 0), x.e)
		order, late, n, e := shop.BestOf(missing, x.c)
		want(t, "BestOf", append(order, late, n), e, ints(0, 0), x.e)
	}
	for setup := 2; setup < 5; setup++ {
		l := jobs(job("a", 0, 1, 1), job("b", setup, 1, 1))
		noPlan(t, l, exampleChanges(), ints(0, 0, 0), api.ErrMissing)
		order, late, n, e := shop.BestOf(l, exampleChanges())
		want(t, "BestOf", append(order, late, n), e, ints(0, 0), api.ErrMissing)
	}
	for _, x := range []struct {
		order []int
		e     api.Errno
	}{
		{nil, api.ErrShape},
		{ints(0, 1), api.ErrShape},
		{ints(0, 1, 2, 2), api.ErrShape},
		{ints(3, 3), api.ErrShape},
		{ints(0, 1, 3), api.ErrMissing},
		{ints(-1, 1, 2), api.ErrMissing},
		{ints(0, extremes()[0], 0), api.ErrMissing},
		{ints(0, extremes()[1], 0), api.ErrMissing},
		{ints(0, 0, 3), api.ErrDouble},
		{ints(0, 1, 0), api.ErrDouble},
		{ints(2, 1, 1), api.ErrDouble},
	} {
		noPlan(t, exampleJobs(), exampleChanges(), x.order, x.e)
	}
}

// byDefinition are the times of an order, its lateness and its changes, each time as the sum of all that comes before.
func byDefinition(l []api.ShopJob, c api.ShopChanges, order []int) (times []int, late, count int) {
	times = make([]int, len(l))
	for last := range order {
		setup, time := c.Start, 0
		count = 0
		for _, i := range order[:last+1] {
			time += c.Ticks[setup][l[i].Setup] + l[i].Ticks
			if l[i].Setup != setup {
				setup = l[i].Setup
				count++
			}
		}
		times[order[last]] = time
		if n := time - l[order[last]].Due; last == 0 || n > late {
			late = n
		}
	}
	return times, late, count
}

// P9.1, examples 1 and 2, edge cases of one job and of changes that take no ticks
func TestOrders(t *testing.T) {
	free := changes(1, ints(0, 0), ints(0, 0))
	for _, x := range []struct {
		l           []api.ShopJob
		c           api.ShopChanges
		order       []int
		times       []int
		late, count int
	}{
		{exampleJobs(), exampleChanges(), ints(0, 1, 2), ints(5, 11, 16), 2, 2},
		{exampleJobs(), exampleChanges(), ints(0, 2, 1), ints(5, 14, 8), 5, 1},
		{exampleJobs(), exampleChanges(), ints(1, 0, 2), ints(13, 6, 16), 7, 2},
		{exampleJobs(), free, ints(0, 1, 2), ints(5, 9, 12), 0, 3},
		{exampleJobs(), free, ints(1, 0, 2), ints(9, 4, 12), 3, 1},
		{jobs(job("a", 0, 5, 6)), exampleChanges(), ints(0), ints(5), -1, 0},
		{jobs(job("a", 1, 5, 6)), changes(0, ints(0, 7), ints(3, 0)), ints(0), ints(12), 6, 1},
		{jobs(job("a", 0, 5, 6)), changes(1, ints(0, 7), ints(3, 0)), ints(0), ints(8), 2, 1},
		{jobs(job("a", 0, 1, 100000)), changes(0, ints(0)), ints(0), ints(1), -99999, 0},
	} {
		times, e := shop.TimesOf(x.l, x.c, x.order)
		want(t, "TimesOf", times, e, x.times, api.OK)
		late, n, e := shop.LateBy(x.l, x.c, x.order)
		want(t, "LateBy", ints(late, n), e, ints(x.late, x.count), api.OK)
	}
}

// P9.1: random orders by the definition
func TestOrdersByDefinition(t *testing.T) {
	plans(3000, func(random *rand.Rand, l []api.ShopJob, c api.ShopChanges) {
		order := random.Perm(len(l))
		wanted, latest, count := byDefinition(l, c, order)
		times, e := shop.TimesOf(l, c, order)
		want(t, "TimesOf", times, e, wanted, api.OK)
		late, n, e := shop.LateBy(l, c, order)
		want(t, "LateBy", ints(late, n), e, ints(latest, count), api.OK)
	})
}
