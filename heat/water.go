package heat

import (
	"slices"

	"martensite/api"
)

// heatsOf are the heats of the water after all ticks.
func heatsOf(w api.HeatWater, flows []int) []int {
	var l []int
	heat := w.Start
	for _, f := range flows {
		heat += w.Gain - heat*f/api.MaxHeatFlow
		l = append(l, heat)
	}
	return l
}

// boilingTick is the tick at which the water boils, or that after the last one.
func boilingTick(w api.HeatWater, flows []int) int {
	boils := func(heat int) bool { return heat >= w.Boiling }
	if i := slices.IndexFunc(heatsOf(w, flows), boils); i >= 0 {
		return i + 1
	}
	return len(flows) + 1
}

// CheckWater is the error of the water.
func CheckWater(w api.HeatWater) api.Errno {
	return firstOf(
		rangeError(0, api.MaxHeatEnergy, w.Start, w.Gain, w.Boiling),
		errorIf(w.Start >= w.Boiling, api.ErrOrder))
}

// WaterRun are the heats of the water after all ticks.
func WaterRun(w api.HeatWater, flows []int) ([]int, api.Errno) {
	f := firstOf(
		CheckWater(w),
		ticksError(len(flows)),
		rangeError(0, api.MaxHeatFlow, flows...))
	if f != api.OK {
		return nil, f
	}
	return heatsOf(w, flows), api.OK
}

// BoilingIn is the range of the ticks at which the water boils.
func BoilingIn(w api.HeatWater, flows []api.Range) (api.Range, api.Errno) {
	f := firstOf(
		CheckWater(w),
		ticksError(len(flows)),
		rangesError(api.MaxHeatFlow, flows))
	if f != api.OK {
		return api.Range{}, f
	}
	var lower, upper []int
	for _, r := range flows {
		lower, upper = append(lower, r.Lo), append(upper, r.Hi)
	}
	ticks := api.Range{Lo: boilingTick(w, lower), Hi: boilingTick(w, upper)}
	if ticks.Lo > len(flows) {
		return api.Range{}, api.ErrNone
	}
	return ticks, api.OK
}
