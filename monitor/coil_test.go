package monitor_test

import (
	"math"
	"math/rand"
	"slices"
	"testing"

	"martensite/api"
	"martensite/monitor"
)

// rule is a rule.
func rule(target, slack, limit int) api.MonitorRule {
	return api.MonitorRule{Target: target, Slack: slack, Limit: limit}
}

// P7.7, example 8
func TestSumsOf(t *testing.T) {
	example := rule(10, 1, 3)
	for _, x := range []struct {
		r       api.MonitorRule
		l       []int
		sums    [][2]int
		i, sign int
		e       api.Errno
	}{
		{example, []int{10, 13, 13, 9}, [][2]int{{0, 0}, {2, 0}, {4, 0}, {2, 0}}, 2, 1, api.OK},
		{example, []int{5, 10}, [][2]int{{0, 4}, {0, 3}}, 0, -1, api.OK},
		{example, []int{6, 10}, [][2]int{{0, 3}, {0, 2}}, 0, 0, api.ErrNone},
		{example, []int{14, 10}, [][2]int{{3, 0}, {2, 0}}, 0, 0, api.ErrNone},
		{example, []int{15, 10}, [][2]int{{4, 0}, {3, 0}}, 0, 1, api.OK},
		{example, []int{11, 9, 11}, [][2]int{{0, 0}, {0, 0}, {0, 0}}, 0, 0, api.ErrNone},
		{example, []int{13, 7, 6}, [][2]int{{2, 0}, {0, 2}, {0, 5}}, 2, -1, api.OK},
		{rule(0, 0, 0), []int{0, -1, 1}, [][2]int{{0, 0}, {0, 1}, {1, 0}}, 1, -1, api.OK},
		{rule(0, 0, 0), []int{0, 0}, [][2]int{{0, 0}, {0, 0}}, 0, 0, api.ErrNone},
		{rule(-1000000, 0, 1000000), []int{1000000, -1000000}, [][2]int{{2000000, 0}, {2000000, 0}}, 0, 1, api.OK},
		{rule(1000000, 1000000, 1000000), []int{-1000000, -1000000}, [][2]int{{0, 1000000}, {0, 2000000}}, 1, -1, api.OK},
		{example, nil, nil, 0, 0, api.ErrNone},
		{example, []int{}, nil, 0, 0, api.ErrNone},
		{example, slices.Repeat([]int{11}, 40), make([][2]int, 40), 0, 0, api.ErrNone},
	} {
		s, e := monitor.SumsOf(x.r, x.l)
		want(t, "SumsOf", s, e, x.sums, api.OK)
		i, sign, e := monitor.FirstDrift(x.r, x.l)
		want(t, "FirstDrift", []int{i, sign}, e, []int{x.i, x.sign}, x.e)
	}
}

// P7.7: the errors of rules and tests
func TestErrorsOfSums(t *testing.T) {
	example := rule(10, 1, 3)
	for _, x := range []struct {
		r api.MonitorRule
		l []int
		e api.Errno
	}{
		{rule(1000001, 1, 3), nil, api.ErrRange},
		{rule(-1000001, 1, 3), nil, api.ErrRange},
		{rule(math.MinInt, 1, 3), []int{15}, api.ErrRange},
		{rule(math.MaxInt, 1, 3), []int{15}, api.ErrRange},
		{rule(10, -1, 3), []int{15}, api.ErrRange},
		{rule(10, 1000001, 3), []int{15}, api.ErrRange},
		{rule(10, math.MinInt, 3), []int{15}, api.ErrRange},
		{rule(10, 1, -1), []int{15}, api.ErrRange},
		{rule(10, 1, 1000001), []int{15}, api.ErrRange},
		{rule(10, 1, math.MaxInt), []int{15}, api.ErrRange},
		{rule(10, 1, -1), make([]int, 41), api.ErrRange},
		{example, make([]int, 41), api.ErrLarge},
		{example, slices.Repeat([]int{1000001}, 41), api.ErrLarge},
		{example, []int{15, 1000001}, api.ErrRange},
		{example, []int{-1000001, 15}, api.ErrRange},
		{example, []int{math.MinInt}, api.ErrRange},
		{example, []int{math.MaxInt}, api.ErrRange},
	} {
		s, e := monitor.SumsOf(x.r, x.l)
		want(t, "SumsOf", s, e, [][2]int{}, x.e)
		i, sign, e := monitor.FirstDrift(x.r, x.l)
		want(t, "FirstDrift", []int{i, sign}, e, []int{0, 0}, x.e)
	}
}

// greatest is the maximum of 0 and of the sums of what the last tests add.
func greatest(l []int, added func(int) int) int {
	sum, most := 0, 0
	for _, x := range slices.Backward(l) {
		sum += added(x)
		most = max(most, sum)
	}
	return most
}

// P7.13: two ways to sum; P7.7: the first test at which the drift is found
func TestTwoWaysToSum(t *testing.T) {
	random := rand.New(rand.NewSource(77))
	for i := range 2000 {
		most := []int{5, 100, api.MaxMonitorValue}[i%3]
		r := rule(between(random, -most, most), between(random, 0, most)/2, between(random, 0, most))
		var l []int
		for range random.Intn(api.MaxMonitorTests + 1) {
			l = append(l, between(random, -most, most))
		}
		var wanted [][2]int
		index, sign, f := 0, 0, api.ErrNone
		for n := range l {
			above := greatest(l[:n+1], func(x int) int { return x - r.Target - r.Slack })
			below := greatest(l[:n+1], func(x int) int { return r.Target - x - r.Slack })
			wanted = append(wanted, [2]int{above, below})
			if f == api.OK {
				continue
			}
			if below > r.Limit {
				index, sign, f = n, -1, api.OK
			}
			if above > r.Limit {
				index, sign, f = n, 1, api.OK
			}
		}
		s, e := monitor.SumsOf(r, l)
		want(t, "SumsOf", s, e, wanted, api.OK)
		j, g, e := monitor.FirstDrift(r, l)
		want(t, "FirstDrift", []int{j, g}, e, []int{index, sign}, f)
	}
}

// P7.7, example 9 and edge case of exactly the life
func TestSwapsOf(t *testing.T) {
	for _, x := range []struct {
		life  int
		jobs  []int
		swaps []int
		e     api.Errno
	}{
		{10, []int{4, 5, 3, 8, 2}, []int{2, 3}, api.OK},
		{10, []int{5, 5, 10}, []int{2}, api.OK},
		{10, []int{10, 10, 10}, []int{1, 2}, api.OK},
		{10, []int{5, 6, 4, 1}, []int{1, 3}, api.OK},
		{10, []int{10}, nil, api.OK},
		{1, []int{1, 1}, []int{1}, api.OK},
		{1000000, []int{1000000, 1, 999999}, []int{1}, api.OK},
		{3, nil, nil, api.OK},
		{3, []int{}, nil, api.OK},
		{30, slices.Repeat([]int{1}, 30), nil, api.OK},
		{0, nil, nil, api.ErrRange},
		{-1, make([]int, 31), nil, api.ErrRange},
		{1000001, nil, nil, api.ErrRange},
		{math.MinInt, nil, nil, api.ErrRange},
		{math.MaxInt, []int{1}, nil, api.ErrRange},
		{3, make([]int, 31), nil, api.ErrLarge},
		{3, slices.Repeat([]int{4}, 31), nil, api.ErrLarge},
		{3, []int{4}, nil, api.ErrClash},
		{3, []int{1, 2, 4, 0}, nil, api.ErrClash},
		{3, []int{1, 0, 4}, nil, api.ErrRange},
		{3, []int{1, -1}, nil, api.ErrRange},
		{3, []int{1000001}, nil, api.ErrRange},
		{3, []int{1000000}, nil, api.ErrClash},
		{3, []int{math.MinInt}, nil, api.ErrRange},
		{3, []int{math.MaxInt}, nil, api.ErrRange},
	} {
		l, e := monitor.SwapsOf(x.life, x.jobs)
		want(t, "SwapsOf", l, e, x.swaps, x.e)
	}
}

// lasts is whether no coil makes more shots than its life.
func lasts(life int, jobs, swaps []int) bool {
	made := 0
	for job, shots := range jobs {
		if slices.Contains(swaps, job) {
			made = 0
		}
		made += shots
		if made > life {
			return false
		}
	}
	return true
}

// fewest is the number of swaps of the choice with the fewest ones, of all choices.
func fewest(life int, jobs []int) int {
	least := len(jobs)
	for choice := range 1 << len(jobs) {
		var swaps []int
		for job := range jobs {
			if choice>>job&1 == 1 {
				swaps = append(swaps, job)
			}
		}
		if len(swaps) < least && lasts(life, jobs, swaps) {
			least = len(swaps)
		}
	}
	return least
}

// P7.7, P7.14: no other choice has fewer swaps, and each swap comes before the job that is too much
func TestFewestSwaps(t *testing.T) {
	random := rand.New(rand.NewSource(714))
	for range 500 {
		life := between(random, 1, 12)
		var jobs []int
		for range 1 + random.Intn(8) {
			jobs = append(jobs, between(random, 1, life))
		}
		l, e := monitor.SwapsOf(life, jobs)
		want(t, "SwapsOf", len(l), e, fewest(life, jobs), api.OK)
		if !lasts(life, jobs, l) {
			t.Errorf("SwapsOf: %d, %v: %v", life, jobs, l)
		}
		for i, swap := range l {
			if lasts(life, jobs[:swap+1], l[:i]) {
				t.Errorf("SwapsOf: %d, %v: %v before %d", life, jobs, l, swap)
			}
		}
	}
}
