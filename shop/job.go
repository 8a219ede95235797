// Package shop is chapter 9: jobs, baskets, power and charts. See shared/doc/09-shop.md.
package shop

import (
	"math"
	"slices"

	"martensite/api"
)

// job is a checked job, and how long the change to its set-up takes from each set-up.
type job struct {
	api.ShopJob
	changeFrom []int
}

// line is checked jobs, and the set-up at the beginning.
type line struct {
	jobs  []job
	start int
}

// lineOf is the line of jobs with changes, which have no error.
func lineOf(l []api.ShopJob, c api.ShopChanges) line {
	w := line{start: c.Start}
	for _, given := range l {
		x := job{ShopJob: given}
		for _, row := range c.Ticks {
			x.changeFrom = append(x.changeFrom, row[x.Setup])
		}
		w.jobs = append(w.jobs, x)
	}
	return w
}

// course is what an order leads to: the times of all jobs, the lateness and the changes.
type course struct {
	times         []int
	late, changes int
}

// courseOf is the course of an order.
func (w line) courseOf(order []int) course {
	x := course{times: make([]int, len(order)), late: math.MinInt}
	time, setup := 0, w.start
	for _, i := range order {
		next := w.jobs[i]
		if next.Setup != setup {
			x.changes++
		}
		time += next.changeFrom[setup] + next.Ticks
		setup = next.Setup
		x.times[i] = time
		x.late = max(x.late, time-next.Due)
	}
	return x
}

// isBetter is whether a course is less late than another one, or as late with fewer changes.
func (x course) isBetter(y course) bool {
	if x.late != y.late {
		return x.late < y.late
	}
	return x.changes < y.changes
}

// jobsError is the error of jobs.
func jobsError(l []api.ShopJob) api.Errno {
	_, e := CheckJobs(l)
	return e
}

// rowError is the error of a row of changes from a set-up, of which there are so many.
func rowError(old, setups int, row []int) api.Errno {
	if len(row) != setups {
		return api.ErrShape
	}
	_, e := firstError(len(row), func(i int) api.Errno {
		return firstOf(
			rangeError(0, api.MaxShopTicks, row[i]),
			errorIf(i == old && row[i] != 0, api.ErrForm))
	})
	return e
}

// lineError is the error of jobs with changes.
func lineError(l []api.ShopJob, c api.ShopChanges) api.Errno {
	_, e := CheckChanges(c)
	isMissing := func(x api.ShopJob) bool { return x.Setup >= len(c.Ticks) }
	return firstOf(
		jobsError(l),
		e,
		errorIf(slices.ContainsFunc(l, isMissing), api.ErrMissing))
}

// orderError is the error of an order of so many jobs.
func orderError(jobs int, order []int) api.Errno {
	if len(order) != jobs {
		return api.ErrShape
	}
	_, e := firstError(jobs, func(i int) api.Errno {
		return firstOf(
			errorIf(order[i] < 0 || order[i] >= jobs, api.ErrMissing),
			errorIf(slices.Contains(order[:i], order[i]), api.ErrDouble))
	})
	return e
}

// CheckJobs finds the error of jobs, and the index of the job that has it.
func CheckJobs(l []api.ShopJob) (int, api.Errno) {
	if e := countError(len(l), 1, api.MaxShopJobs); e != api.OK {
		return 0, e
	}
	names := map[string]bool{}
	return firstError(len(l), func(i int) api.Errno {
		x := l[i]
		e := firstOf(
			nameError(x.Name),
			errorIf(names[x.Name], api.ErrExists),
			rangeError(0, api.MaxShopSetups-1, x.Setup),
			rangeError(1, api.MaxShopTicks, x.Ticks),
			rangeError(0, api.MaxShopTicks, x.Due))
		names[x.Name] = true
		return e
	})
}

// CheckChanges finds the error of changes, and the index of the row that has it.
func CheckChanges(c api.ShopChanges) (int, api.Errno) {
	setups := len(c.Ticks)
	if e := countError(setups, 1, api.MaxShopSetups); e != api.OK {
		return 0, e
	}
	i, e := firstError(setups, func(i int) api.Errno { return rowError(i, setups, c.Ticks[i]) })
	if e != api.OK {
		return i, e
	}
	return 0, errorIf(c.Start < 0 || c.Start >= setups, api.ErrMissing)
}

// TimesOf are the times of all jobs of an order.
func TimesOf(l []api.ShopJob, c api.ShopChanges, order []int) ([]int, api.Errno) {
	if e := firstOf(lineError(l, c), orderError(len(l), order)); e != api.OK {
		return nil, e
	}
	return lineOf(l, c).courseOf(order).times, api.OK
}

// LateBy is the lateness of an order, and its changes.
func LateBy(l []api.ShopJob, c api.ShopChanges, order []int) (int, int, api.Errno) {
	if e := firstOf(lineError(l, c), orderError(len(l), order)); e != api.OK {
		return 0, 0, e
	}
	x := lineOf(l, c).courseOf(order)
	return x.late, x.changes, api.OK
}
