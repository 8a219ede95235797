package monitor_test

import (
	"math"
	"math/rand"
	"slices"
	"testing"

	"martensite/api"
	"martensite/monitor"
)

// P7.2, example 1 and edge cases
func TestRecordOf(t *testing.T) {
	for _, x := range []struct {
		l []api.MonitorFrame
		r api.MonitorRecord
	}{
		{frames(frame(1, 12, 5), frame(0, 10, 5), frame(1, 12, 5)), a()},
		{frames(frame(0, 10, 5), frame(1, 12, 5)), a()},
		{frames(frame(0, 10, 5)), record(known(10, 5), lost())},
		{frames(frame(1, 10, 5)), record(lost(), known(10, 5))},
		{frames(frame(1, 0, 0)), record(lost(), known(0, 0))},
		{nil, record(lost(), lost())},
		{frames(), record(lost(), lost())},
		{slices.Repeat(frames(frame(1, 7, -7)), api.MaxMonitorFrames), record(lost(), known(7, -7))},
	} {
		r, e := monitor.RecordOf(examplePlan(), x.l)
		want(t, "RecordOf", r, e, x.r, api.OK)
		for _, row := range r.Rows {
			if !row.Known && len(row.Values) != 0 {
				t.Errorf("RecordOf: values of a lost row: %+v", r)
			}
		}
	}
}

// P7.2: the errors of the frames, and their order
func TestErrorsOfRecordOf(t *testing.T) {
	good := frame(0, 10, 5)
	for _, x := range badFrames() {
		for _, l := range [][]api.MonitorFrame{frames(x.f), frames(good, x.f), frames(good, x.f, frame(0, 1, 1))} {
			r, e := monitor.RecordOf(examplePlan(), l)
			want(t, "RecordOf", r, e, noRecord(), x.e)
		}
	}
	for _, x := range []struct {
		l []api.MonitorFrame
		e api.Errno
	}{
		{slices.Repeat(frames(good), api.MaxMonitorFrames+1), api.ErrLarge},
		{slices.Repeat(frames(frame(9)), api.MaxMonitorFrames+1), api.ErrLarge},
		{frames(frame(1, 12, 5), frame(1, 12, 6)), api.ErrClash},
		{frames(frame(1, 12, 5), frame(1, 11, 5)), api.ErrClash},
		{frames(good, frame(1, 12, 5), good, frame(0, 5, 10)), api.ErrClash},
		{frames(good, frame(0, 1, 1), frame(2, 1, 1)), api.ErrClash},
		{frames(good, frame(2, 1, 1), frame(0, 1, 1)), api.ErrRange},
		{frames(good, frame(0, 10), frame(2, 1, 1)), api.ErrShape},
		{frames(frame(0, 0, 0), frame(0, 0, 1)), api.ErrClash},
	} {
		r, e := monitor.RecordOf(examplePlan(), x.l)
		want(t, "RecordOf", r, e, noRecord(), x.e)
	}
}

// rowsOf is the record of frames that do not clash, found tick by tick.
func rowsOf(p api.MonitorPlan, l []api.MonitorFrame) api.MonitorRecord {
	var r api.MonitorRecord
	for tick := range p.Ticks {
		row := lost()
		for _, f := range l {
			if f.Tick == tick {
				row = known(f.Values...)
			}
		}
		r.Rows = append(r.Rows, row)
	}
	return r
}

// P7.2, P7.9: frames may arrive in any order, and again
func TestFramesInAnyOrder(t *testing.T) {
	plans(1000, func(random *rand.Rand, p api.MonitorPlan, most int) {
		var l []api.MonitorFrame
		for tick := range p.Ticks {
			f := frame(tick, someValues(random, p, most)...)
			for range random.Intn(4) {
				l = append(l, f)
			}
		}
		random.Shuffle(len(l), func(i, j int) { l[i], l[j] = l[j], l[i] })
		r, e := monitor.RecordOf(p, l)
		want(t, "RecordOf", r, e, rowsOf(p, l), api.OK)
		i, e := monitor.CheckRecord(p, r)
		want(t, "CheckRecord", i, e, 0, api.OK)
		if len(l) == 0 {
			return
		}
		first, i := l[0], random.Intn(len(p.Channels))
		values := slices.Clone(first.Values)
		if values[i] > 0 {
			values[i]--
		} else {
			values[i]++
		}
		r, e = monitor.RecordOf(p, append(l, frame(first.Tick, values...)))
		want(t, "RecordOf", r, e, noRecord(), api.ErrClash)
	})
}

// badRecord is a record with an error for the plan of the examples, and its index.
type badRecord struct {
	r     api.MonitorRecord
	index int
	e     api.Errno
}

// badRecords are records with errors.
func badRecords() []badRecord {
	valued := func(values ...int) api.MonitorRow { return api.MonitorRow{Values: values} }
	return []badRecord{
		{noRecord(), 0, api.ErrShape},
		{record(known(1, 1)), 0, api.ErrShape},
		{record(valued(1)), 0, api.ErrShape},
		{record(known(1, 1), known(1, 1), known(1, 1)), 0, api.ErrShape},
		{record(known(1, 1), valued(1, 1), known(1)), 0, api.ErrShape},
		{record(valued(1), known(1)), 0, api.ErrForm},
		{record(known(1, 1), valued(1, 1)), 1, api.ErrForm},
		{record(known(1, 1), valued(0)), 1, api.ErrForm},
		{record(lost(), valued(1000001)), 1, api.ErrForm},
		{record(known(), valued(1)), 0, api.ErrShape},
		{record(known(1, 1), known()), 1, api.ErrShape},
		{record(known(1), known(1, 1)), 0, api.ErrShape},
		{record(lost(), known(1000001)), 1, api.ErrShape},
		{record(lost(), known(1, 1, 1)), 1, api.ErrShape},
		{record(known(1000001, 1), known(1)), 0, api.ErrRange},
		{record(lost(), known(1, -1000001)), 1, api.ErrRange},
		{record(lost(), known(math.MinInt, 1)), 1, api.ErrRange},
		{record(lost(), known(1, math.MaxInt)), 1, api.ErrRange},
	}
}

// P7.2
func TestCheckRecord(t *testing.T) {
	for _, x := range badRecords() {
		i, e := monitor.CheckRecord(examplePlan(), x.r)
		want(t, "CheckRecord", i, e, x.index, x.e)
	}
	empty := api.MonitorRow{Values: []int{}}
	for _, r := range records(a(), b(), record(lost(), lost()), record(empty, lost()), record(known(1000000, -1000000), empty)) {
		i, e := monitor.CheckRecord(examplePlan(), r)
		want(t, "CheckRecord", i, e, 0, api.OK)
	}
}

// P7.2, P7.3, P7.4: the errors of a record in the other functions
func TestErrorsOfRecords(t *testing.T) {
	for _, x := range badRecords() {
		l, e := monitor.LostIn(examplePlan(), x.r)
		want(t, "LostIn", l, e, []int{}, x.e)
		d, e := monitor.DeviationsOf(examplePlan(), exampleEnvelope(), x.r)
		want(t, "DeviationsOf", d, e, []int{}, x.e)
		n, e := monitor.VerdictOf(examplePlan(), exampleEnvelope(), x.r)
		want(t, "VerdictOf", n, e, 0, x.e)
		for _, list := range [][]api.MonitorRecord{records(x.r), records(a(), x.r), records(a(), x.r, record(lost(), lost()))} {
			y, e := monitor.EnvelopeOf(examplePlan(), list, -1)
			want(t, "EnvelopeOf", y, e, noEnvelope(), x.e)
			l, e := monitor.AlarmsAmong(examplePlan(), list, -1)
			want(t, "AlarmsAmong", l, e, []int{}, x.e)
		}
	}
}

// P7.2, example 1 and edge case of a cycle without any frame
func TestLostIn(t *testing.T) {
	for _, x := range []struct {
		r api.MonitorRecord
		l []int
	}{
		{a(), nil},
		{record(known(10, 5), lost()), []int{1}},
		{record(lost(), known(10, 5)), []int{0}},
		{record(lost(), lost()), []int{0, 1}},
	} {
		l, e := monitor.LostIn(examplePlan(), x.r)
		want(t, "LostIn", l, e, x.l, api.OK)
	}
	plans(300, func(random *rand.Rand, p api.MonitorPlan, most int) {
		r := someRecords(random, p, 1, most)[0]
		var wanted []int
		for tick := range r.Rows {
			if random.Intn(2) == 0 {
				r.Rows[tick] = lost()
				wanted = append(wanted, tick)
			}
		}
		l, e := monitor.LostIn(p, r)
		want(t, "LostIn", l, e, wanted, api.OK)
	})
}

// R3: a record shares no memory with the frames, nor do its rows with each other
func TestMemoryOfRecords(t *testing.T) {
	values := []int{10, 5}
	l := frames(frame(0, values...), frame(1, values...), frame(0, values...))
	r, _ := monitor.RecordOf(examplePlan(), l)
	values[0] = 1
	want(t, "RecordOf", r, api.OK, record(known(10, 5), known(10, 5)), api.OK)
	r.Rows[0].Values[0] = 2
	_ = append(r.Rows[0].Values, 3)
	want(t, "RecordOf", r.Rows[1], api.OK, known(10, 5), api.OK)
	want(t, "RecordOf", l, api.OK, frames(frame(0, 1, 5), frame(1, 1, 5), frame(0, 1, 5)), api.OK)
}
