package heat_test

import (
	"math"
	"math/rand"
	"slices"
	"testing"

	"martensite/api"
	"martensite/heat"
)

// water is a water.
func water(start, gain, boiling int) api.HeatWater {
	return api.HeatWater{Start: start, Gain: gain, Boiling: boiling}
}

// badWaters are waters with errors.
func badWaters() map[api.HeatWater]api.Errno {
	return map[api.HeatWater]api.Errno{
		water(-1, 0, 10):                        api.ErrRange,
		water(1000001, 0, 1000000):              api.ErrRange,
		water(0, -1, 10):                        api.ErrRange,
		water(0, 1000001, 10):                   api.ErrRange,
		water(0, 0, -1):                         api.ErrRange,
		water(0, 0, 1000001):                    api.ErrRange,
		water(10, -1, 5):                        api.ErrRange,
		water(10, math.MaxInt, 5):               api.ErrRange,
		water(math.MinInt, 0, 5):                api.ErrRange,
		water(math.MaxInt, math.MinInt, 5):      api.ErrRange,
		water(0, 0, 0):                          api.ErrOrder,
		water(10, 0, 10):                        api.ErrOrder,
		water(11, 5, 10):                        api.ErrOrder,
		water(1000000, 1000000, 1000000):        api.ErrOrder,
		water(1000000, 0, 0):                    api.ErrOrder,
		water(0, 0, 1):                          api.OK,
		water(999999, 1000000, 1000000):         api.OK,
		water(0, api.MaxHeatEnergy, 1):          api.OK,
		water(9, 0, 10):                         api.OK,
		{Start: 0, Gain: 3, Boiling: 1000 * 10}: api.OK,
	}
}

// P3.6
func TestCheckWater(t *testing.T) {
	for w, e := range badWaters() {
		want(t, "CheckWater", nil, heat.CheckWater(w), nil, e)
		if e == api.OK {
			continue
		}
		l, f := heat.WaterRun(w, slices.Repeat([]int{-1}, api.MaxHeatTicks+1))
		want(t, "WaterRun", l, f, []int{}, e)
		r, f := heat.BoilingIn(w, slices.Repeat([]api.Range{span(-1, 1001)}, api.MaxHeatTicks+1))
		want(t, "BoilingIn", r, f, api.Range{}, e)
	}
}

// P3.6, example 7
func TestWaterOfTheExample(t *testing.T) {
	w := water(100, 50, 200)
	l, f := heat.WaterRun(w, []int{100, 100, 100, 100})
	want(t, "WaterRun", l, f, []int{140, 176, 209, 239}, api.OK)
	l, f = heat.WaterRun(w, []int{500, 500, 500, 500})
	want(t, "WaterRun", l, f, []int{100, 100, 100, 100}, api.OK)
	r, f := heat.BoilingIn(w, slices.Repeat([]api.Range{span(100, 500)}, 4))
	want(t, "BoilingIn", r, f, span(3, 5), api.OK)
}

// P3.6: what is lost is rounded down, and the gain comes after it
func TestWaterRun(t *testing.T) {
	for _, x := range []struct {
		w            api.HeatWater
		flows, heats []int
	}{
		{water(1, 0, 2), []int{999, 1000, 1000}, []int{1, 0, 0}},
		{water(1999, 0, 2000), []int{1, 1, 0, 501}, []int{1998, 1997, 1997, 997}},
		{water(10, 7, 1000), []int{1000, 1000}, []int{7, 7}},
		{water(10, 7, 1000), []int{0, 0}, []int{17, 24}},
		{water(0, 1000000, 1), []int{0, 1, 500}, []int{1000000, 1999000, 1999500}},
		{water(5, 5, 10), nil, []int{}},
	} {
		l, f := heat.WaterRun(x.w, x.flows)
		want(t, "WaterRun", l, f, x.heats, api.OK)
	}
	l, f := heat.WaterRun(water(999999, 1000000, 1000000), make([]int, api.MaxHeatTicks))
	want(t, "the most heat", l[api.MaxHeatTicks-1], f, 999999+200*1000000, api.OK)
}

// P3.6: the tick at which the water boils
func TestBoilingIn(t *testing.T) {
	for _, x := range []struct {
		w     api.HeatWater
		flows []api.Range
		ticks api.Range
		e     api.Errno
	}{
		{water(5, 5, 10), nil, span(0, 0), api.ErrNone},
		{water(5, 5, 10), []api.Range{span(0, 0)}, span(1, 1), api.OK},
		{water(5, 4, 10), []api.Range{span(0, 0)}, span(0, 0), api.ErrNone},
		{water(5, 4, 10), []api.Range{span(0, 0), span(0, 0)}, span(2, 2), api.OK},
		{water(5, 5, 10), []api.Range{span(0, 199)}, span(1, 1), api.OK},
		{water(5, 5, 10), []api.Range{span(0, 200)}, span(1, 2), api.OK},
		{water(5, 5, 10), []api.Range{span(200, 200)}, span(0, 0), api.ErrNone},
		{water(5, 5, 10), []api.Range{span(200, 1000), span(0, 1000), span(0, 0)}, span(2, 3), api.OK},
		{water(5, 5, 10), []api.Range{span(200, 1000), span(0, 1000)}, span(2, 3), api.OK},
		{water(5, 4, 10), []api.Range{span(0, 1000), span(0, 1000), span(0, 1000)}, span(2, 4), api.OK},
		// The water that boiled once boils at that tick, although it does not later.
		{water(5, 5, 10), []api.Range{span(0, 0), span(1000, 1000)}, span(1, 1), api.OK},
	} {
		r, f := heat.BoilingIn(x.w, x.flows)
		want(t, "BoilingIn", r, f, x.ticks, x.e)
	}
}

// P3.6
func TestErrorsOfFlows(t *testing.T) {
	w := water(5, 5, 10)
	for _, flow := range []int{-1, 1001, math.MinInt, math.MaxInt} {
		l, f := heat.WaterRun(w, []int{0, 1000, flow})
		want(t, "WaterRun", l, f, []int{}, api.ErrRange)
		r, f := heat.BoilingIn(w, []api.Range{span(0, 0), span(flow, flow), span(1, 0)})
		want(t, "BoilingIn", r, f, api.Range{}, api.ErrRange)
		r, f = heat.BoilingIn(w, []api.Range{span(0, 0), span(1, 0), span(flow, flow)})
		want(t, "BoilingIn", r, f, api.Range{}, api.ErrOrder)
		r, f = heat.BoilingIn(w, []api.Range{span(0, flow)})
		want(t, "BoilingIn", r, f, api.Range{}, api.ErrRange)
		r, f = heat.BoilingIn(w, []api.Range{span(flow, 0)})
		want(t, "BoilingIn", r, f, api.Range{}, api.ErrRange)
		l, f = heat.WaterRun(w, slices.Repeat([]int{flow}, api.MaxHeatTicks+1))
		want(t, "WaterRun", l, f, []int{}, api.ErrLarge)
	}
	r, f := heat.BoilingIn(w, []api.Range{span(0, 0), span(1000, 999)})
	want(t, "BoilingIn", r, f, api.Range{}, api.ErrOrder)
	r, f = heat.BoilingIn(w, slices.Repeat([]api.Range{span(1, 0)}, api.MaxHeatTicks+1))
	want(t, "BoilingIn", r, f, api.Range{}, api.ErrLarge)
	r, f = heat.BoilingIn(w, slices.Repeat([]api.Range{span(0, 1000)}, api.MaxHeatTicks))
	want(t, "BoilingIn", r, f, span(1, 201), api.OK)
}

// P3.13: for all flows in ranges the water boils within the range that is returned
func TestBeforeItBoils(t *testing.T) {
	random := rand.New(rand.NewSource(5))
	boiling := 0
	for range 4000 {
		w := water(random.Intn(300), random.Intn(200), 300+random.Intn(600))
		var ranges []api.Range
		for range random.Intn(12) {
			a, b := between(random, 0, 1000), between(random, 0, 1000)
			ranges = append(ranges, span(min(a, b), max(a, b)))
		}
		ticks, f := heat.BoilingIn(w, ranges)
		if f == api.OK {
			boiling++
		}
		for range 4 {
			var flows []int
			for _, r := range ranges {
				flows = append(flows, between(random, r.Lo, r.Hi))
			}
			l, g := heat.WaterRun(w, flows)
			tick := 1 + slices.IndexFunc(l, func(n int) bool { return n >= w.Boiling })
			if tick == 0 {
				tick = len(flows) + 1
			}
			if g != api.OK || f == api.OK && (tick < ticks.Lo || tick > ticks.Hi) || f != api.OK && (f != api.ErrNone || tick <= len(flows)) {
				t.Errorf("%+v boils at %d, not in %v, %d, %d", w, tick, ticks, f, g)
			}
		}
	}
	if boiling < 500 {
		t.Errorf("only %d boil", boiling)
	}
}
