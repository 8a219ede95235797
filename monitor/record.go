package monitor

import (
	"slices"

	"martensite/api"
)

// rowError is the error of a row of a record.
func (p plan) rowError(_ int, row api.MonitorRow) api.Errno {
	if !row.Known {
		return errorIf(len(row.Values) > 0, api.ErrForm)
	}
	return p.valuesError(row.Values)
}

// checked is CheckRecord for a valid plan.
func (p plan) checked(r api.MonitorRecord) (int, api.Errno) {
	if len(r.Rows) != p.Ticks {
		return 0, api.ErrShape
	}
	return firstError(r.Rows, p.rowError)
}

// recordError is the error of a record.
func (p plan) recordError(r api.MonitorRecord) api.Errno {
	_, e := p.checked(r)
	return e
}

// wholeError is the error of a record that must be whole.
func (p plan) wholeError(_ int, r api.MonitorRecord) api.Errno {
	return firstOf(
		p.recordError(r),
		errorIf(len(lostIn(r)) > 0, api.ErrGap))
}

// recordsError is the error of records.
func (p plan) recordsError(l []api.MonitorRecord) api.Errno {
	e := firstOf(
		errorIf(len(l) == 0, api.ErrShape),
		errorIf(len(l) > api.MaxMonitorParts, api.ErrLarge))
	if e != api.OK {
		return e
	}
	_, e = firstError(l, p.wholeError)
	return e
}

// record is the record of frames.
func (p plan) record(l []api.MonitorFrame) (api.MonitorRecord, api.Errno) {
	rows := make([]api.MonitorRow, p.Ticks)
	arrives := func(_ int, f api.MonitorFrame) api.Errno {
		if e := p.frameError(f); e != api.OK {
			return e
		}
		row := &rows[f.Tick]
		if row.Known {
			return errorIf(!slices.Equal(row.Values, f.Values), api.ErrClash)
		}
		*row = api.MonitorRow{Known: true, Values: slices.Clone(f.Values)}
		return api.OK
	}
	if _, e := firstError(l, arrives); e != api.OK {
		return api.MonitorRecord{}, e
	}
	return api.MonitorRecord{Rows: rows}, api.OK
}

// lostIn are the ticks that are lost in a record.
func lostIn(r api.MonitorRecord) []int {
	var ticks []int
	for tick, row := range r.Rows {
		if !row.Known {
			ticks = append(ticks, tick)
		}
	}
	return ticks
}

// RecordOf is the record of frames, whatever their order is.
func RecordOf(p api.MonitorPlan, l []api.MonitorFrame) (api.MonitorRecord, api.Errno) {
	if e := firstOf(planError(p), errorIf(len(l) > api.MaxMonitorFrames, api.ErrLarge)); e != api.OK {
		return api.MonitorRecord{}, e
	}
	return plan{p}.record(l)
}

// CheckRecord finds the error of a record, and the index of the tick that has it.
func CheckRecord(p api.MonitorPlan, r api.MonitorRecord) (int, api.Errno) {
	if e := planError(p); e != api.OK {
		return 0, e
	}
	return plan{p}.checked(r)
}

// LostIn are the ticks that are lost in a record.
func LostIn(p api.MonitorPlan, r api.MonitorRecord) ([]int, api.Errno) {
	if e := firstOf(planError(p), plan{p}.recordError(r)); e != api.OK {
		return nil, e
	}
	return lostIn(r), api.OK
}
