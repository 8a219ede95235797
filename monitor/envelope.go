package monitor

import (
	"iter"
	"slices"

	"martensite/api"
)

// trimError is the error of a trim of so many records.
func trimError(count, trim int) api.Errno {
	// Half of the number is compared, as twice the trim may be too great for an int.
	return rangeError(0, (count-1)/2, trim)
}

// rangesError is the error of the ranges of a tick.
func (p plan) rangesError(_ int, row []api.Range) api.Errno {
	if len(row) != len(p.Channels) {
		return api.ErrShape
	}
	_, e := firstError(row, func(_ int, r api.Range) api.Errno {
		return firstOf(
			valueError(r.Lo, r.Hi),
			errorIf(r.Lo > r.Hi, api.ErrOrder))
	})
	return e
}

// partsError is the error of a number of parts, and of the trim of so many records.
func partsError(parts, trim int) api.Errno {
	return firstOf(
		rangeError(1, api.MaxMonitorParts, parts),
		trimError(parts, trim))
}

// envelopeError is the error of an envelope.
func envelopeError(p api.MonitorPlan, x api.MonitorEnvelope) api.Errno {
	_, e := CheckEnvelope(p, x)
	return e
}

// trimmed is the range of values of which as many as the trim are left out on each side.
func trimmed(values []int, trim int) api.Range {
	l := slices.Sorted(slices.Values(values))
	return api.Range{Lo: l[trim], Hi: l[len(l)-1-trim]}
}

// envelope is the envelope of whole records.
func (p plan) envelope(l []api.MonitorRecord, trim int) api.MonitorEnvelope {
	x := api.MonitorEnvelope{Parts: len(l), Trim: trim}
	for tick := range p.Ticks {
		var row []api.Range
		for channel := range p.Channels {
			var values []int
			for _, r := range l {
				values = append(values, r.Rows[tick].Values[channel])
			}
			row = append(row, trimmed(values, trim))
		}
		x.Rows = append(x.Rows, row)
	}
	return x
}

// outside is by how much a value is above a range (below 0: below it).
func outside(r api.Range, value int) int {
	return max(value-r.Hi, 0) + min(value-r.Lo, 0)
}

// deviations are the deviations of a record from an envelope. (A tick that is lost has no values, so it has none.)
func deviations(x api.MonitorEnvelope, r api.MonitorRecord) iter.Seq[api.MonitorDeviation] {
	return func(yield func(api.MonitorDeviation) bool) {
		for tick, row := range r.Rows {
			for channel, value := range row.Values {
				by := outside(x.Rows[tick][channel], value)
				if by != 0 && !yield(api.MonitorDeviation{Tick: tick, Channel: channel, By: by}) {
					return
				}
			}
		}
	}
}

// deviates is whether a record has a deviation from an envelope.
func deviates(x api.MonitorEnvelope, r api.MonitorRecord) bool {
	for range deviations(x, r) {
		return true
	}
	return false
}

// isAlarm is whether a whole record has a deviation from the envelope of all others.
func (p plan) isAlarm(l []api.MonitorRecord, index, trim int) bool {
	others := slices.Concat(l[:index], l[index+1:])
	return deviates(p.envelope(others, trim), l[index])
}

// lowest is a fraction in lowest terms; both numbers are above 0.
func lowest(num, den int) api.Frac {
	a, b := num, den
	for b > 0 {
		a, b = b, a%b
	}
	return api.Frac{Num: num / a, Den: den / a}
}

// EnvelopeOf is the envelope of records.
func EnvelopeOf(p api.MonitorPlan, l []api.MonitorRecord, trim int) (api.MonitorEnvelope, api.Errno) {
	if e := firstOf(planError(p), plan{p}.recordsError(l), trimError(len(l), trim)); e != api.OK {
		return api.MonitorEnvelope{}, e
	}
	return plan{p}.envelope(l, trim), api.OK
}

// CheckEnvelope finds the error of an envelope, and the index of the tick that has it.
func CheckEnvelope(p api.MonitorPlan, x api.MonitorEnvelope) (int, api.Errno) {
	e := firstOf(
		planError(p),
		partsError(x.Parts, x.Trim),
		errorIf(len(x.Rows) != p.Ticks, api.ErrShape))
	if e != api.OK {
		return 0, e
	}
	return firstError(x.Rows, plan{p}.rangesError)
}

// DeviationsOf are the deviations of a record from an envelope.
func DeviationsOf(p api.MonitorPlan, x api.MonitorEnvelope, r api.MonitorRecord) ([]api.MonitorDeviation, api.Errno) {
	if e := firstOf(envelopeError(p, x), plan{p}.recordError(r)); e != api.OK {
		return nil, e
	}
	return slices.Collect(deviations(x, r)), api.OK
}

// VerdictOf is the verdict of a record.
func VerdictOf(p api.MonitorPlan, x api.MonitorEnvelope, r api.MonitorRecord) (int, api.Errno) {
	if e := firstOf(envelopeError(p, x), plan{p}.recordError(r)); e != api.OK {
		return 0, e
	}
	switch {
	case deviates(x, r):
		return api.MonitorSpoilt, api.OK
	case len(lostIn(r)) > 0:
		return api.MonitorLost, api.OK
	}
	return api.MonitorGood, api.OK
}

// AlarmBound is the bound of alarms of so many parts with a trim.
func AlarmBound(p api.MonitorPlan, parts, trim int) (api.Frac, api.Errno) {
	if e := firstOf(planError(p), partsError(parts, trim)); e != api.OK {
		return api.Frac{}, e
	}
	all := parts + 1
	return lowest(min(2*(trim+1)*len(p.Channels)*p.Ticks, all), all), api.OK
}

// AlarmsAmong are the indexes of all records that are alarms.
func AlarmsAmong(p api.MonitorPlan, l []api.MonitorRecord, trim int) ([]int, api.Errno) {
	e := firstOf(
		planError(p),
		plan{p}.recordsError(l),
		errorIf(len(l) == 1, api.ErrNone),
		trimError(len(l)-1, trim))
	if e != api.OK {
		return nil, e
	}
	var alarms []int
	for i := range l {
		if (plan{p}).isAlarm(l, i, trim) {
			alarms = append(alarms, i)
		}
	}
	return alarms, api.OK
}
