package monitor

import (
	"slices"

	"martensite/api"
)

// testsError is the error of a rule, and of tests.
func testsError(r api.MonitorRule, l []int) api.Errno {
	return firstOf(
		valueError(r.Target),
		rangeError(0, api.MaxMonitorValue, r.Slack, r.Limit),
		errorIf(len(l) > api.MaxMonitorTests, api.ErrLarge),
		valueError(l...))
}

// sumsAfter are both sums of drift after each test.
func sumsAfter(r api.MonitorRule, l []int) [][2]int {
	var sums [][2]int
	var last [2]int
	for _, test := range l {
		above := test - r.Target
		last = [2]int{
			max(last[0]+above-r.Slack, 0),
			max(last[1]-above-r.Slack, 0),
		}
		sums = append(sums, last)
	}
	return sums
}

// SumsOf are both sums of drift after each test.
func SumsOf(r api.MonitorRule, l []int) ([][2]int, api.Errno) {
	if e := testsError(r, l); e != api.OK {
		return nil, e
	}
	return sumsAfter(r, l), api.OK
}

// FirstDrift is the index of the first test at which the drift is found, and 1 if the tests are above the target, -1 if they are below it.
func FirstDrift(r api.MonitorRule, l []int) (int, int, api.Errno) {
	if e := testsError(r, l); e != api.OK {
		return 0, 0, e
	}
	sums := sumsAfter(r, l)
	i := slices.IndexFunc(sums, func(s [2]int) bool { return max(s[0], s[1]) > r.Limit })
	switch {
	case i < 0:
		return 0, 0, api.ErrNone
	case sums[i][0] > r.Limit:
		return i, 1, api.OK
	}
	return i, -1, api.OK
}

// SwapsOf are the indexes of all jobs before which the coil is swapped.
func SwapsOf(life int, jobs []int) ([]int, api.Errno) {
	e := firstOf(
		rangeError(1, api.MaxMonitorNumber, life),
		errorIf(len(jobs) > api.MaxMonitorJobs, api.ErrLarge))
	if e != api.OK {
		return nil, e
	}
	_, e = firstError(jobs, func(_, shots int) api.Errno {
		return firstOf(
			rangeError(1, api.MaxMonitorNumber, shots),
			errorIf(shots > life, api.ErrClash))
	})
	if e != api.OK {
		return nil, e
	}
	var swaps []int
	made := 0
	for job, shots := range jobs {
		if made+shots > life {
			swaps = append(swaps, job)
			made = 0
		}
		made += shots
	}
	return swaps, api.OK
}
