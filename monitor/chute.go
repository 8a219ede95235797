package monitor

import (
	"slices"

	"martensite/api"
)

// life is what has happened to a part since it was loaded.
type life struct{ passed, marked, left bool }

// mayLeave is whether a part may leave by the good chute.
func (l life) mayLeave() bool { return !l.left && l.passed && !l.marked }

// machine is the lives of all parts that were loaded, and the counts.
type machine struct {
	lives  map[int]life
	counts api.MonitorCounts
}

// machineAfter is the machine after events; otherwise the index of the event that has an error, and the error.
func machineAfter(l []api.MonitorEvent) (machine, int, api.Errno) {
	m := machine{lives: map[int]life{}}
	if len(l) > api.MaxMonitorEvents {
		return m, 0, api.ErrLarge
	}
	i, e := firstError(l, m.take)
	return m, i, e
}

// take lets an event happen, if it has no error.
func (m *machine) take(_ int, x api.MonitorEvent) api.Errno {
	e := firstOf(
		errorIf(x.Kind < 0 || x.Kind >= api.MonitorKinds, api.ErrKind),
		numberError(x.Part),
		m.refusal(x))
	if e == api.OK {
		m.happen(x)
	}
	return e
}

// refusal is the error of an event of a valid kind by what has happened to its part.
func (m *machine) refusal(x api.MonitorEvent) api.Errno {
	l, isLoaded := m.lives[x.Part]
	if x.Kind == api.MonitorLoaded {
		return errorIf(isLoaded, api.ErrExists)
	}
	if !isLoaded || l.left {
		return api.ErrMissing
	}
	switch x.Kind {
	case api.MonitorPassed:
		return errorIf(l.passed || l.marked, api.ErrState)
	case api.MonitorMarked:
		return errorIf(l.marked, api.ErrState)
	case api.MonitorByGood:
		return errorIf(!l.mayLeave(), api.ErrRefused)
	}
	return api.OK
}

// happen lets an event without an error happen.
func (m *machine) happen(x api.MonitorEvent) {
	l := m.lives[x.Part]
	switch x.Kind {
	case api.MonitorLoaded:
		m.counts.Inside++
	case api.MonitorPassed:
		l.passed = true
	case api.MonitorMarked:
		l.marked = true
	case api.MonitorByGood:
		l.left = true
		m.counts.Inside--
		m.counts.Good++
	case api.MonitorByBad:
		l.left = true
		m.counts.Inside--
		m.counts.Bad++
	}
	m.lives[x.Part] = l
}

// passError is the error of a pass.
func passError(_ int, x api.MonitorPass) api.Errno {
	return firstOf(
		numberError(x.Part),
		rangeError(0, api.MaxTick, x.From, x.To),
		errorIf(x.From > x.To, api.ErrOrder))
}

// CheckPasses finds the error of passes, and the index of the pass that has it.
func CheckPasses(l []api.MonitorPass) (int, api.Errno) {
	if len(l) > api.MaxMonitorPasses {
		return 0, api.ErrLarge
	}
	return firstError(l, passError)
}

// SpoiltBy are the numbers of all parts that are spoilt by ticks.
func SpoiltBy(l []api.MonitorPass, ticks []int) ([]int, api.Errno) {
	_, e := CheckPasses(l)
	e = firstOf(
		e,
		errorIf(len(ticks) > api.MaxMonitorPasses, api.ErrLarge),
		rangeError(0, api.MaxTick, ticks...))
	if e != api.OK {
		return nil, e
	}
	var parts []int
	for _, x := range l {
		liesIn := func(tick int) bool { return x.From <= tick && tick <= x.To }
		if slices.ContainsFunc(ticks, liesIn) {
			parts = append(parts, x.Part)
		}
	}
	slices.Sort(parts)
	return slices.Compact(parts), api.OK
}

// RunOf is the counts after events; otherwise the index of the event that has an error, and the error.
func RunOf(l []api.MonitorEvent) (api.MonitorCounts, int, api.Errno) {
	m, i, e := machineAfter(l)
	if e != api.OK {
		return api.MonitorCounts{}, i, e
	}
	return m.counts, 0, api.OK
}

// MayLeave is whether a part may leave by the good chute after events.
func MayLeave(l []api.MonitorEvent, part int) (bool, api.Errno) {
	m, _, e := machineAfter(l)
	if e := firstOf(e, numberError(part)); e != api.OK {
		return false, e
	}
	return m.lives[part].mayLeave(), api.OK
}
