package heat

import (
	"slices"

	"martensite/api"
)

// colder asks of an energy whether its temperature is less than another one.
func (p part) colder(kelvin int) func(int) bool {
	return func(energy int) bool { return p.kelvin(energy).less(whole(kelvin)) }
}

// hotter asks of an energy whether its temperature is greater than another one.
func (p part) hotter(kelvin int) func(int) bool {
	return func(energy int) bool { return whole(kelvin).less(p.kelvin(energy)) }
}

// depth is the depth of a state above a temperature.
func (p part) depth(e []int, kelvin int) int {
	if i := slices.IndexFunc(e, p.colder(kelvin)); i >= 0 {
		return i
	}
	return len(e)
}

// historyError is the error of a box and of a history.
func historyError(s api.HeatSetup, b api.HeatBox, x api.HeatHistory) api.Errno {
	return firstOf(boxError(s, b), spansError(s, x.Spans), kelvinError(x.Kelvin))
}

// taskError is the error of a task.
func taskError(s api.HeatSetup, x api.HeatTask) api.Errno {
	return firstOf(
		driveError(s, x.Drive),
		kelvinError(x.Kelvin),
		rangeError(1, s.Cells, x.Depth),
		rangeError(0, api.MaxHeatTicks, x.Most))
}

// DepthAbove is the depth of a state above a temperature.
func DepthAbove(s api.HeatSetup, e []int, kelvin int) (int, api.Errno) {
	_, wrong := CheckState(s, e)
	if f := firstOf(wrong, kelvinError(kelvin)); f != api.OK {
		return 0, f
	}
	return partOf(s).depth(e, kelvin), api.OK
}

// DepthsOf are the depths of a history.
func DepthsOf(s api.HeatSetup, b api.HeatBox, x api.HeatHistory) (api.Range, api.Errno) {
	if f := historyError(s, b, x); f != api.OK {
		return api.Range{}, f
	}
	p := partOf(s)
	ends := p.boundsOf(b, x.Spans)
	if ends.broken() {
		return api.Range{}, api.ErrBreak
	}
	return api.Range{
		Lo: p.depth(peaksOf(b.Lo, ends.lo.states), x.Kelvin),
		Hi: p.depth(peaksOf(b.Hi, ends.hi.states), x.Kelvin),
	}, api.OK
}

// ShortestTo is the minimum number of ticks after which a depth is reached.
func ShortestTo(s api.HeatSetup, e []int, x api.HeatTask) (int, api.Errno) {
	_, wrong := CheckState(s, e)
	if f := firstOf(wrong, taskError(s, x)); f != api.OK {
		return 0, f
	}
	p := partOf(s)
	c := p.courseOf(e, slices.Repeat([]api.HeatDrive{x.Drive}, x.Most))
	for ticks, state := range slices.Concat([][]int{e}, c.states) {
		if p.depth(state, x.Kelvin) >= x.Depth {
			return ticks, api.OK
		}
	}
	return 0, firstOf(errorIf(c.broken, api.ErrBreak), api.ErrNone)
}

// WithinLimit is the first tick at which a cell may be hotter than a temperature.
func WithinLimit(s api.HeatSetup, b api.HeatBox, x api.HeatHistory) (int, api.Errno) {
	if f := historyError(s, b, x); f != api.OK {
		return 0, f
	}
	p := partOf(s)
	ends := p.boundsOf(b, x.Spans)
	for tick, box := range slices.Concat([]api.HeatBox{b}, ends.boxes()) {
		if slices.ContainsFunc(box.Hi, p.hotter(x.Kelvin)) {
			return tick, api.OK
		}
	}
	return 0, firstOf(errorIf(ends.broken(), api.ErrBreak), api.ErrNone)
}
