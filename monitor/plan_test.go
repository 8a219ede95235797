package monitor_test

import (
	"math"
	"math/rand"
	"testing"

	"martensite/api"
	"martensite/monitor"
)

// P7.1
func TestCheckPlan(t *testing.T) {
	for _, x := range badPlans() {
		i, e := monitor.CheckPlan(x.p)
		want(t, "CheckPlan", i, e, x.index, x.e)
	}
	for _, p := range []api.MonitorPlan{
		examplePlan(),
		plan(1, "a"),
		plan(12, "a", "A", "aa", "a-"),
		plan(12, "abcdefghijkl", "Z9-", "z", "a--0"),
	} {
		i, e := monitor.CheckPlan(p)
		want(t, "CheckPlan", i, e, 0, api.OK)
	}
}

// P7.1 to P7.4: the error of the plan comes before all others
func TestErrorsOfPlans(t *testing.T) {
	for _, x := range badPlans() {
		want(t, "CheckFrame", 0, monitor.CheckFrame(x.p, frame(-1)), 0, x.e)
		r, e := monitor.RecordOf(x.p, make([]api.MonitorFrame, api.MaxMonitorFrames+1))
		want(t, "RecordOf", r, e, noRecord(), x.e)
		i, e := monitor.CheckRecord(x.p, record(api.MonitorRow{Values: []int{1}}))
		want(t, "CheckRecord", i, e, 0, x.e)
		l, e := monitor.LostIn(x.p, record(lost(), lost()))
		want(t, "LostIn", l, e, []int{}, x.e)
		y, e := monitor.EnvelopeOf(x.p, nil, -1)
		want(t, "EnvelopeOf", y, e, noEnvelope(), x.e)
		i, e = monitor.CheckEnvelope(x.p, envelope(0, -1))
		want(t, "CheckEnvelope", i, e, 0, x.e)
		d, e := monitor.DeviationsOf(x.p, envelope(0, -1), noRecord())
		want(t, "DeviationsOf", d, e, []int{}, x.e)
		n, e := monitor.VerdictOf(x.p, envelope(0, -1), noRecord())
		want(t, "VerdictOf", n, e, 0, x.e)
		f, e := monitor.AlarmBound(x.p, 0, -1)
		want(t, "AlarmBound", f, e, api.Frac{}, x.e)
		l, e = monitor.AlarmsAmong(x.p, nil, -1)
		want(t, "AlarmsAmong", l, e, []int{}, x.e)
	}
}

// badFrame is a frame with an error for the plan of the examples.
type badFrame struct {
	f api.MonitorFrame
	e api.Errno
}

// badFrames are frames with errors.
func badFrames() []badFrame {
	return []badFrame{
		{frame(-1, 1, 1), api.ErrRange},
		{frame(2, 1, 1), api.ErrRange},
		{frame(math.MinInt), api.ErrRange},
		{frame(math.MaxInt), api.ErrRange},
		{frame(2, 1), api.ErrRange},
		{frame(0), api.ErrShape},
		{frame(0, []int{}...), api.ErrShape},
		{frame(1, 1), api.ErrShape},
		{frame(1, 1, 1, 1), api.ErrShape},
		{frame(1, 1000001, 1, 1), api.ErrShape},
		{frame(1, 1000001), api.ErrShape},
		{frame(1, 1000001, 1), api.ErrRange},
		{frame(0, 1, 1000001), api.ErrRange},
		{frame(0, -1000001, 1), api.ErrRange},
		{frame(0, 1, -1000001), api.ErrRange},
		{frame(0, math.MinInt, 1), api.ErrRange},
		{frame(0, 1, math.MaxInt), api.ErrRange},
	}
}

// P7.1
func TestCheckFrame(t *testing.T) {
	for _, x := range badFrames() {
		want(t, "CheckFrame", 0, monitor.CheckFrame(examplePlan(), x.f), 0, x.e)
	}
	for _, f := range frames(frame(0, 10, 5), frame(1, 12, 5), frame(0, 1000000, -1000000), frame(1, 0, 0)) {
		want(t, "CheckFrame", 0, monitor.CheckFrame(examplePlan(), f), 0, api.OK)
	}
	plans(300, func(random *rand.Rand, p api.MonitorPlan, most int) {
		values := someValues(random, p, most)
		want(t, "CheckFrame", 0, monitor.CheckFrame(p, frame(p.Ticks-1, values...)), 0, api.OK)
		want(t, "CheckFrame", 0, monitor.CheckFrame(p, frame(p.Ticks, values...)), 0, api.ErrRange)
		want(t, "CheckFrame", 0, monitor.CheckFrame(p, frame(0, values[1:]...)), 0, api.ErrShape)
		want(t, "CheckFrame", 0, monitor.CheckFrame(p, frame(0, append(values, 0)...)), 0, api.ErrShape)
		values[random.Intn(len(values))] = api.MaxMonitorValue + 1
		want(t, "CheckFrame", 0, monitor.CheckFrame(p, frame(0, values...)), 0, api.ErrRange)
	})
}
