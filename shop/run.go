package shop

import (
	"slices"

	"martensite/api"
)

// runError is the error of a run.
func runError(x api.ShopRun) api.Errno {
	return firstOf(
		rangeError(0, api.MaxShopTicks, x.Start),
		rangeError(1, api.MaxShopTicks, x.Ticks),
		rangeError(1, api.MaxShopPower, x.Power))
}

// runsError is the error of runs.
func runsError(l []api.ShopRun) api.Errno {
	_, e := CheckRuns(l)
	return e
}

// peakError is the error of a peak.
func peakError(peak int) api.Errno { return rangeError(1, 2*api.MaxShopPower, peak) }

// end is the first tick after a run.
func end(x api.ShopRun) int { return x.Start + x.Ticks }

// powerAt is the power of runs at a tick.
func powerAt(l []api.ShopRun, tick int) int {
	power := 0
	for _, x := range l {
		if x.Start <= tick && tick < end(x) {
			power += x.Power
		}
	}
	return power
}

// fits is whether a run, together with others, keeps the power at no tick of its own greater than a peak.
func fits(l []api.ShopRun, x api.ShopRun, peak int) bool {
	isOver := func(tick int) bool { return powerAt(l, tick)+x.Power > peak }
	if isOver(x.Start) {
		return false
	}
	// After its first tick the power is only greater where another run begins.
	return !slices.ContainsFunc(l, func(y api.ShopRun) bool {
		return x.Start < y.Start && y.Start < end(x) && isOver(y.Start)
	})
}

// earliest is the earliest tick at which a run fits, whose power is at most the peak.
func earliest(l []api.ShopRun, x api.ShopRun, peak int) int {
	// If it does not fit a tick earlier, then because of a run that ends there.
	ticks := []int{x.Start}
	for _, y := range l {
		ticks = append(ticks, max(x.Start, end(y)))
	}
	slices.Sort(ticks)
	for _, tick := range ticks {
		x.Start = tick
		if fits(l, x, peak) {
			break
		}
	}
	return x.Start
}

// CheckRuns finds the error of runs, and the index of the run that has it.
func CheckRuns(l []api.ShopRun) (int, api.Errno) {
	if len(l) > api.MaxShopRuns {
		return 0, api.ErrLarge
	}
	return firstError(len(l), func(i int) api.Errno { return runError(l[i]) })
}

// PeakOf is the peak of runs, and its tick.
func PeakOf(l []api.ShopRun) (int, int, api.Errno) {
	if e := runsError(l); e != api.OK {
		return 0, 0, e
	}
	peak, tick := 0, 0
	for _, x := range l {
		power := powerAt(l, x.Start)
		if power > peak || power == peak && x.Start < tick {
			peak, tick = power, x.Start
		}
	}
	return peak, tick, api.OK
}

// EarliestFor is the earliest tick at which a run keeps the power at no tick of its own greater than a peak.
func EarliestFor(l []api.ShopRun, x api.ShopRun, peak int) (int, api.Errno) {
	e := firstOf(
		runsError(l),
		runError(x),
		peakError(peak),
		errorIf(x.Power > peak, api.ErrNone))
	if e != api.OK {
		return 0, e
	}
	return earliest(l, x, peak), api.OK
}

// Placed are the ticks at which runs that are placed under a peak begin.
func Placed(l []api.ShopRun, peak int) ([]int, api.Errno) {
	isOver := func(x api.ShopRun) bool { return x.Power > peak }
	e := firstOf(
		runsError(l),
		peakError(peak),
		errorIf(slices.ContainsFunc(l, isOver), api.ErrNone))
	if e != api.OK {
		return nil, e
	}
	var placed []api.ShopRun
	var ticks []int
	for _, x := range l {
		x.Start = earliest(placed, x, peak)
		placed = append(placed, x)
		ticks = append(ticks, x.Start)
	}
	return ticks, api.OK
}
