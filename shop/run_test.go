package shop_test

import (
	"math/rand"
	"slices"
	"testing"

	"martensite/api"
	"martensite/shop"
)

// badRuns are runs with an error, and its index.
type badRuns struct {
	l     []api.ShopRun
	index int
	e     api.Errno
}

// badRun are runs with an error.
func badRun() []api.ShopRun {
	var l []api.ShopRun
	for _, n := range append(extremes(), -1, 100001) {
		l = append(l, run(n, 1, 1), run(0, n, 1), run(0, 1, n))
	}
	return append(l, run(0, 0, 1), run(0, 1, 0))
}

// allBadRuns are runs with errors.
func allBadRuns() []badRuns {
	good := run(0, 1, 1)
	l := []badRuns{
		{slices.Repeat(runs(good), 13), 0, api.ErrLarge},
		{slices.Repeat(runs(run(-1, 0, 0)), 13), 0, api.ErrLarge},
	}
	for _, x := range badRun() {
		l = append(l, badRuns{runs(x), 0, api.ErrRange}, badRuns{runs(good, x), 1, api.ErrRange}, badRuns{append(slices.Repeat(runs(good), 11), x), 11, api.ErrRange})
	}
	return l
}

// P9.3
func TestCheckRuns(t *testing.T) {
	great := run(100000, 100000, 100000)
	for _, l := range [][]api.ShopRun{nil, runs(), exampleRuns(), runs(run(0, 1, 1)), slices.Repeat(runs(great), 12)} {
		i, e := shop.CheckRuns(l)
		want(t, "CheckRuns", i, e, 0, api.OK)
	}
	for _, x := range allBadRuns() {
		i, e := shop.CheckRuns(x.l)
		want(t, "CheckRuns", i, e, x.index, x.e)
	}
}

// P9.3: the errors of runs, of a run and of a peak
func TestErrorsOfRuns(t *testing.T) {
	for _, x := range allBadRuns() {
		n, tick, e := shop.PeakOf(x.l)
		want(t, "PeakOf", ints(n, tick), e, ints(0, 0), x.e)
		for _, peak := range ints(0, 1, 1000) {
			l, e := shop.Placed(x.l, peak)
			want(t, "Placed", l, e, ints(), x.e)
			n, e := shop.EarliestFor(x.l, run(-1, 0, 2), peak)
			want(t, "EarliestFor", n, e, 0, x.e)
		}
	}
	for _, x := range badRun() {
		for _, peak := range ints(0, 1, 1000) {
			n, e := shop.EarliestFor(exampleRuns(), x, peak)
			want(t, "EarliestFor", n, e, 0, api.ErrRange)
		}
	}
	for _, peak := range append(extremes(), -1, 0, 200001) {
		l, e := shop.Placed(exampleRuns(), peak)
		want(t, "Placed", l, e, ints(), api.ErrRange)
		l, e = shop.Placed(nil, peak)
		want(t, "Placed", l, e, ints(), api.ErrRange)
		n, e := shop.EarliestFor(nil, run(0, 1, 1), peak)
		want(t, "EarliestFor", n, e, 0, api.ErrRange)
	}
	for _, peak := range ints(1, 11) {
		l, e := shop.Placed(exampleRuns(), peak)
		want(t, "Placed", l, e, ints(), api.ErrNone)
		n, e := shop.EarliestFor(exampleRuns(), run(0, 1, 12), peak)
		want(t, "EarliestFor", n, e, 0, api.ErrNone)
	}
}

// P9.3, example 5, edge case without runs
func TestPeakOf(t *testing.T) {
	for _, x := range []struct {
		l          []api.ShopRun
		peak, tick int
	}{
		{nil, 0, 0},
		{runs(), 0, 0},
		{exampleRuns(), 17, 2},
		{runs(run(7, 1, 1)), 1, 7},
		{runs(run(0, 4, 10), run(4, 3, 10)), 10, 0},
		{runs(run(4, 3, 10), run(0, 4, 10)), 10, 0},
		{runs(run(9, 1, 5), run(3, 1, 5), run(6, 1, 5)), 5, 3},
		{runs(run(9, 2, 5), run(3, 2, 5), run(4, 1, 5), run(10, 1, 5)), 10, 4},
		{slices.Repeat(runs(run(100000, 100000, 100000)), 12), 1200000, 100000},
	} {
		n, tick, e := shop.PeakOf(x.l)
		want(t, "PeakOf", ints(n, tick), e, ints(x.peak, x.tick), api.OK)
	}
}

// P9.3, example 5
func TestPlaced(t *testing.T) {
	for _, x := range []struct {
		l     []api.ShopRun
		peak  int
		ticks []int
	}{
		{nil, 1, ints()},
		{exampleRuns(), 15, ints(0, 4, 9)},
		{exampleRuns(), 17, ints(0, 2, 9)},
		{exampleRuns(), 16, ints(0, 4, 9)},
		{exampleRuns(), 12, ints(0, 4, 9)},
		{exampleRuns(), 200000, ints(0, 2, 9)},
		// The second one does not fit before the first one, the third one does.
		{runs(run(5, 5, 10), run(2, 4, 3), run(2, 3, 3)), 12, ints(5, 10, 2)},
		{runs(run(0, 2, 1), run(0, 2, 1), run(0, 2, 1)), 2, ints(0, 0, 2)},
		{slices.Repeat(runs(run(100000, 100000, 100000)), 3), 100000, ints(100000, 200000, 300000)},
		{slices.Repeat(runs(run(100000, 100000, 100000)), 3), 200000, ints(100000, 100000, 200000)},
	} {
		l, e := shop.Placed(x.l, x.peak)
		want(t, "Placed", l, e, x.ticks, api.OK)
	}
}

// P9.3
func TestEarliestFor(t *testing.T) {
	for _, x := range []struct {
		l    []api.ShopRun
		x    api.ShopRun
		peak int
		tick int
	}{
		{nil, run(3, 2, 5), 5, 3},
		{nil, run(100000, 100000, 100000), 200000, 100000},
		{runs(run(0, 4, 10)), run(2, 3, 7), 16, 4},
		{runs(run(0, 4, 10)), run(2, 3, 7), 17, 2},
		{exampleRuns(), run(0, 2, 5), 15, 0},
		{exampleRuns(), run(0, 3, 5), 15, 4},
		{exampleRuns(), run(0, 6, 5), 15, 10},
		{exampleRuns(), run(0, 5, 5), 15, 4},
		// The power of the others alone is greater than the peak, but not at its own ticks.
		{runs(run(0, 4, 10), run(6, 1, 10)), run(0, 2, 1), 5, 4},
		{runs(run(0, 4, 10), run(6, 1, 10)), run(0, 3, 1), 5, 7},
		{slices.Repeat(runs(run(100000, 100000, 100000)), 12), run(0, 100000, 1), 1, 0},
		{slices.Repeat(runs(run(100000, 100000, 100000)), 12), run(1, 100000, 1), 1, 200000},
	} {
		n, e := shop.EarliestFor(x.l, x.x, x.peak)
		want(t, "EarliestFor", n, e, x.tick, api.OK)
	}
}

// powers is the power of runs at each tick from 0 on, so many of them.
func powers(l []api.ShopRun, ticks int) []int {
	all := make([]int, ticks)
	for _, x := range l {
		for tick := x.Start; tick < x.Start+x.Ticks; tick++ {
			all[tick] += x.Power
		}
	}
	return all
}

// P9.3: the peak by all ticks
func TestPeakByTicks(t *testing.T) {
	random := rand.New(rand.NewSource(93))
	for range 3000 {
		l := someRuns(random, api.MaxShopRuns, 6)
		all := powers(l, 12)
		peak := slices.Max(all)
		n, tick, e := shop.PeakOf(l)
		want(t, "PeakOf", ints(n, tick), e, ints(peak, slices.Index(all, peak)), api.OK)
	}
}

// firstFit is the first tick from that of a run on at which it fits to what is there, tick by tick.
func firstFit(there []int, x api.ShopRun, peak int) int {
	for tick := x.Start; ; tick++ {
		if slices.Max(there[tick:tick+x.Ticks])+x.Power <= peak {
			return tick
		}
	}
}

// P9.3: the earliest tick by all ticks
func TestEarliestByTicks(t *testing.T) {
	random := rand.New(rand.NewSource(94))
	later := 0
	for range 3000 {
		l, x := someRuns(random, 5, 12), run(random.Intn(13), 1+random.Intn(12), 1+random.Intn(12))
		peak := x.Power + random.Intn(15)
		wanted := firstFit(powers(l, 60), x, peak)
		n, e := shop.EarliestFor(l, x, peak)
		want(t, "EarliestFor", n, e, wanted, api.OK)
		if n > x.Start {
			later++
		}
	}
	if later < 500 {
		t.Errorf("too few runs that begin later: %d", later)
	}
}

// P9.3, P9.10: placed runs are below the peak, none could begin earlier, and a greater peak places the first two no later
func TestPlacedByTicks(t *testing.T) {
	random := rand.New(rand.NewSource(95))
	for range 3000 {
		l := someRuns(random, api.MaxShopRuns, 12)
		peak := 12 + random.Intn(30)
		starts, e := shop.Placed(l, peak)
		var wanted []int
		var there []api.ShopRun
		for _, x := range l {
			x.Start = firstFit(powers(there, 400), x, peak)
			wanted = append(wanted, x.Start)
			there = append(there, x)
		}
		want(t, "Placed", starts, e, wanted, api.OK)
		if n := slices.Max(powers(there, 400)); n > peak {
			t.Errorf("Placed %v, %d: %v has %d", l, peak, starts, n)
		}
		after, e := shop.Placed(l, peak+1+random.Intn(12))
		for i := range min(2, len(l)) {
			if e != api.OK || after[i] > starts[i] {
				t.Errorf("Placed %v: %v, but with a greater peak %v, %d", l, starts, after, e)
			}
		}
	}
}

// R3: no argument is modified
func TestArgumentsOfRuns(t *testing.T) {
	l := exampleRuns()
	shop.PeakOf(l)
	shop.EarliestFor(l[:2], l[2], 15)
	shop.EarliestFor(l[:1], l[1], 15)
	shop.Placed(l, 15)
	want(t, "runs", l, api.OK, exampleRuns(), api.OK)
}
