package monitor_test

import (
	"math"
	"math/big"
	"math/rand"
	"slices"
	"testing"

	"martensite/api"
	"martensite/monitor"
)

// P7.3, example 2 and edge case of one part
func TestEnvelopeOf(t *testing.T) {
	three := records(a(), b(), c())
	for _, x := range []struct {
		l    []api.MonitorRecord
		trim int
		want api.MonitorEnvelope
	}{
		{three, 0, exampleEnvelope()},
		{three, 1, envelope(3, 1, row(11, 11, 5, 5), row(12, 12, 5, 5))},
		{records(a(), b()), 0, envelope(2, 0, row(10, 11, 5, 6), row(12, 12, 4, 5))},
		{records(b()), 0, envelope(1, 0, row(11, 11, 6, 6), row(12, 12, 4, 4))},
		{slices.Repeat(records(a()), 20), 9, envelope(20, 9, row(10, 10, 5, 5), row(12, 12, 5, 5))},
		{slices.Repeat(records(a(), c()), 10), 9, envelope(20, 9, row(10, 13, 5, 5), row(11, 12, 5, 5))},
		{records(record(known(-1000000, 0), known(-3, 1000000)), record(known(1000000, -1), known(-4, 1000000))), 0, envelope(2, 0, row(-1000000, 1000000, -1, 0), row(-4, -3, 1000000, 1000000))},
	} {
		y, e := monitor.EnvelopeOf(examplePlan(), x.l, x.trim)
		want(t, "EnvelopeOf", y, e, x.want, api.OK)
	}
}

// P7.3: the errors of records and of the trim
func TestErrorsOfEnvelopeOf(t *testing.T) {
	three := records(a(), b(), c())
	gap := record(known(10, 5), lost())
	for _, x := range []struct {
		l    []api.MonitorRecord
		trim int
		e    api.Errno
	}{
		{nil, 0, api.ErrShape},
		{records(), -1, api.ErrShape},
		{slices.Repeat(three, 7), 0, api.ErrLarge},
		{slices.Repeat(records(noRecord()), 21), -1, api.ErrLarge},
		{records(a(), gap), -1, api.ErrGap},
		{records(a(), gap, noRecord()), 0, api.ErrGap},
		{records(a(), noRecord(), gap), 0, api.ErrShape},
		{records(record(lost(), lost())), 0, api.ErrGap},
		{records(record(lost(), known(1))), 0, api.ErrShape},
		{three, -1, api.ErrRange},
		{three, 2, api.ErrRange},
		{three, math.MinInt, api.ErrRange},
		{three, math.MaxInt, api.ErrRange},
		// Twice this trim is too great for an int.
		{three, math.MaxInt/2 + 1, api.ErrRange},
		{records(a()), 1, api.ErrRange},
		{records(a(), b()), 1, api.ErrRange},
		{slices.Repeat(records(a()), 20), 10, api.ErrRange},
	} {
		y, e := monitor.EnvelopeOf(examplePlan(), x.l, x.trim)
		want(t, "EnvelopeOf", y, e, noEnvelope(), x.e)
	}
}

// count is how many of the values of a tick and a channel are as asked.
func count(l []api.MonitorRecord, tick, channel int, is func(int) bool) int {
	n := 0
	for _, r := range l {
		if is(r.Rows[tick].Values[channel]) {
			n++
		}
	}
	return n
}

// isPlaced is whether a value is the one before which exactly so many of the values are, if equal ones may be on either side of it.
func isPlaced(l []api.MonitorRecord, tick, channel, value, before int) bool {
	below := count(l, tick, channel, func(n int) bool { return n < value })
	upTo := count(l, tick, channel, func(n int) bool { return n <= value })
	return below <= before && before < upTo
}

// P7.3, P7.9, P7.10: the ends of ranges by counting; what is learned does not depend on the order, and does not deviate; a trim makes ranges no wider, a further record none narrower
func TestLearned(t *testing.T) {
	plans(600, func(random *rand.Rand, p api.MonitorPlan, most int) {
		l := someRecords(random, p, between(random, 1, api.MaxMonitorParts), most)
		var last api.MonitorEnvelope
		for trim := range (len(l) + 1) / 2 {
			x, e := monitor.EnvelopeOf(p, l, trim)
			if e != api.OK || x.Parts != len(l) || x.Trim != trim || len(x.Rows) != p.Ticks {
				t.Fatal(x, e)
			}
			i, e := monitor.CheckEnvelope(p, x)
			want(t, "CheckEnvelope", i, e, 0, api.OK)
			checkRanges(t, p, l, x)
			if trim > 0 {
				checkNoWider(t, x, last)
			}
			last = x
			if len(l) > 1 && 2*trim < len(l)-1 {
				fewer, e := monitor.EnvelopeOf(p, l[1:], trim)
				want(t, "EnvelopeOf", 0, e, 0, api.OK)
				checkNoWider(t, fewer, x)
			}
			other := slices.Clone(l)
			random.Shuffle(len(l), func(i, j int) { other[i], other[j] = other[j], other[i] })
			y, e := monitor.EnvelopeOf(p, other, trim)
			want(t, "EnvelopeOf", y, e, x, api.OK)
		}
		x, _ := monitor.EnvelopeOf(p, l, 0)
		for _, r := range l {
			d, e := monitor.DeviationsOf(p, x, r)
			want(t, "DeviationsOf", d, e, []int{}, api.OK)
			n, e := monitor.VerdictOf(p, x, r)
			want(t, "VerdictOf", n, e, api.MonitorGood, api.OK)
		}
	})
}

// checkRanges checks the ranges of an envelope by counting values.
func checkRanges(t *testing.T, p api.MonitorPlan, l []api.MonitorRecord, x api.MonitorEnvelope) {
	t.Helper()
	for tick, row := range x.Rows {
		if len(row) != len(p.Channels) {
			t.Fatal(x)
		}
		for channel, r := range row {
			if !isPlaced(l, tick, channel, r.Lo, x.Trim) || !isPlaced(l, tick, channel, r.Hi, len(l)-1-x.Trim) {
				t.Errorf("EnvelopeOf: %+v of %+v", x, l)
			}
			outside := count(l, tick, channel, func(n int) bool { return n < r.Lo || n > r.Hi })
			if outside > 2*x.Trim {
				t.Errorf("EnvelopeOf: %d values outside with the trim %d", outside, x.Trim)
			}
		}
	}
}

// checkNoWider checks that no range of an envelope is wider than that of another one.
func checkNoWider(t *testing.T, x, other api.MonitorEnvelope) {
	t.Helper()
	for tick, row := range x.Rows {
		for channel, r := range row {
			o := other.Rows[tick][channel]
			if r.Lo < o.Lo || r.Hi > o.Hi {
				t.Errorf("%+v is wider than %+v", r, o)
			}
		}
	}
}

// badEnvelope is an envelope with an error for the plan of the examples, and its index.
type badEnvelope struct {
	x     api.MonitorEnvelope
	index int
	e     api.Errno
}

// badEnvelopes are envelopes with errors.
func badEnvelopes() []badEnvelope {
	good := row(10, 13, 5, 6)
	l := []badEnvelope{
		{envelope(3, 0), 0, api.ErrShape},
		{envelope(3, 0, good), 0, api.ErrShape},
		{envelope(3, 0, row()), 0, api.ErrShape},
		{envelope(3, 0, good, row(), good), 0, api.ErrShape},
		{envelope(3, 0, row(), good), 0, api.ErrShape},
		{envelope(3, 0, good, row(1, 2)), 1, api.ErrShape},
		{envelope(3, 0, good, row(2, 1)), 1, api.ErrShape},
		{envelope(3, 0, good, row(1, 2, 3, 4, 5, 6)), 1, api.ErrShape},
		{envelope(3, 0, row(1, 2, 4, 3), row(1, 2)), 0, api.ErrOrder},
		{envelope(3, 0, good, row(1, 2, 4, 3)), 1, api.ErrOrder},
		{envelope(3, 0, good, row(1, 0, 1, 1000001)), 1, api.ErrOrder},
		{envelope(3, 0, good, row(1, 1000001, 1, 0)), 1, api.ErrRange},
		{envelope(3, 0, good, row(1000001, 1, 1, 0)), 1, api.ErrRange},
		{envelope(3, 0, good, row(1, -1000001, 1, 1)), 1, api.ErrRange},
		{envelope(3, 0, good, row(1, 1, -1000001, 1)), 1, api.ErrRange},
		{envelope(3, 0, row(1, 1, math.MinInt, math.MaxInt), row()), 0, api.ErrRange},
	}
	for _, parts := range []int{-1, 0, 21, math.MinInt, math.MaxInt} {
		l = append(l, badEnvelope{envelope(parts, 0, good, good), 0, api.ErrRange}, badEnvelope{envelope(parts, -1, good), 0, api.ErrRange})
	}
	for _, trim := range []int{-1, 2, math.MinInt, math.MaxInt, math.MaxInt/2 + 1} {
		l = append(l, badEnvelope{envelope(3, trim, good, good), 0, api.ErrRange}, badEnvelope{envelope(3, trim, good), 0, api.ErrRange})
	}
	return append(l,
		badEnvelope{envelope(1, 1, good, good), 0, api.ErrRange},
		badEnvelope{envelope(2, 1, good, good), 0, api.ErrRange},
		badEnvelope{envelope(20, 10, good, good), 0, api.ErrRange})
}

// P7.3
func TestCheckEnvelope(t *testing.T) {
	for _, x := range badEnvelopes() {
		i, e := monitor.CheckEnvelope(examplePlan(), x.x)
		want(t, "CheckEnvelope", i, e, x.index, x.e)
		d, e := monitor.DeviationsOf(examplePlan(), x.x, noRecord())
		want(t, "DeviationsOf", d, e, []int{}, x.e)
		n, e := monitor.VerdictOf(examplePlan(), x.x, noRecord())
		want(t, "VerdictOf", n, e, 0, x.e)
	}
	good := row(-1000000, 1000000, 6, 6)
	for _, x := range []api.MonitorEnvelope{exampleEnvelope(), envelope(1, 0, good, good), envelope(20, 9, good, good), envelope(19, 9, good, good), envelope(3, 1, good, good)} {
		i, e := monitor.CheckEnvelope(examplePlan(), x)
		want(t, "CheckEnvelope", i, e, 0, api.OK)
	}
}

// P7.3, example 3 and edge cases of an end of a range, of a deviation and a lost tick
func TestDeviationsOf(t *testing.T) {
	at := func(tick, channel, by int) api.MonitorDeviation {
		return api.MonitorDeviation{Tick: tick, Channel: channel, By: by}
	}
	for _, x := range []struct {
		r       api.MonitorRecord
		l       []api.MonitorDeviation
		verdict int
	}{
		{record(known(14, 5), known(10, 5)), []api.MonitorDeviation{at(0, 0, 1), at(1, 0, -1)}, api.MonitorSpoilt},
		{record(known(10, 5), known(12, 4)), nil, api.MonitorGood},
		{record(known(13, 6), known(11, 5)), nil, api.MonitorGood},
		{record(known(9, 5), known(12, 4)), []api.MonitorDeviation{at(0, 0, -1)}, api.MonitorSpoilt},
		{record(known(10, 5), known(12, 6)), []api.MonitorDeviation{at(1, 1, 1)}, api.MonitorSpoilt},
		{record(known(14, 7), known(13, 3)), []api.MonitorDeviation{at(0, 0, 1), at(0, 1, 1), at(1, 0, 1), at(1, 1, -1)}, api.MonitorSpoilt},
		{record(known(1000000, -1000000), known(12, 5)), []api.MonitorDeviation{at(0, 0, 999987), at(0, 1, -1000005)}, api.MonitorSpoilt},
		{record(known(10, 5), lost()), nil, api.MonitorLost},
		{record(lost(), known(12, 5)), nil, api.MonitorLost},
		{record(lost(), lost()), nil, api.MonitorLost},
		{record(known(14, 5), lost()), []api.MonitorDeviation{at(0, 0, 1)}, api.MonitorSpoilt},
		{record(lost(), known(12, 0)), []api.MonitorDeviation{at(1, 1, -4)}, api.MonitorSpoilt},
	} {
		l, e := monitor.DeviationsOf(examplePlan(), exampleEnvelope(), x.r)
		want(t, "DeviationsOf", l, e, x.l, api.OK)
		n, e := monitor.VerdictOf(examplePlan(), exampleEnvelope(), x.r)
		want(t, "VerdictOf", n, e, x.verdict, api.OK)
	}
}

// P7.3: deviations and verdicts of random records, tick by tick
func TestDeviationsByTicks(t *testing.T) {
	plans(600, func(random *rand.Rand, p api.MonitorPlan, most int) {
		l := someRecords(random, p, 3, most)
		x, _ := monitor.EnvelopeOf(p, l[:2], 0)
		r := l[2]
		if random.Intn(2) == 0 {
			r.Rows[random.Intn(p.Ticks)] = lost()
		}
		var wanted []api.MonitorDeviation
		verdict := api.MonitorGood
		for tick := range p.Ticks {
			if !r.Rows[tick].Known {
				verdict = api.MonitorLost
				continue
			}
			for channel := range p.Channels {
				n, y := r.Rows[tick].Values[channel], x.Rows[tick][channel]
				if n > y.Hi {
					wanted = append(wanted, api.MonitorDeviation{Tick: tick, Channel: channel, By: n - y.Hi})
				}
				if n < y.Lo {
					wanted = append(wanted, api.MonitorDeviation{Tick: tick, Channel: channel, By: n - y.Lo})
				}
			}
		}
		if len(wanted) > 0 {
			verdict = api.MonitorSpoilt
		}
		d, e := monitor.DeviationsOf(p, x, r)
		want(t, "DeviationsOf", d, e, wanted, api.OK)
		n, e := monitor.VerdictOf(p, x, r)
		want(t, "VerdictOf", n, e, verdict, api.OK)
	})
}

// P7.4, example 4
func TestAlarmBound(t *testing.T) {
	for _, x := range []struct {
		p           api.MonitorPlan
		parts, trim int
		f           api.Frac
		e           api.Errno
	}{
		{examplePlan(), 20, 0, api.Frac{Num: 8, Den: 21}, api.OK},
		{plan(1, "a"), 20, 0, api.Frac{Num: 2, Den: 21}, api.OK},
		{examplePlan(), 19, 0, api.Frac{Num: 2, Den: 5}, api.OK},
		{examplePlan(), 7, 0, api.Frac{Num: 1, Den: 1}, api.OK},
		{examplePlan(), 8, 0, api.Frac{Num: 8, Den: 9}, api.OK},
		{examplePlan(), 1, 0, api.Frac{Num: 1, Den: 1}, api.OK},
		{examplePlan(), 20, 1, api.Frac{Num: 16, Den: 21}, api.OK},
		{examplePlan(), 20, 2, api.Frac{Num: 1, Den: 1}, api.OK},
		{plan(1, "a"), 20, 9, api.Frac{Num: 20, Den: 21}, api.OK},
		{plan(12, "a", "b", "c", "d"), 20, 9, api.Frac{Num: 1, Den: 1}, api.OK},
		{examplePlan(), 0, 0, api.Frac{}, api.ErrRange},
		{examplePlan(), -1, 0, api.Frac{}, api.ErrRange},
		{examplePlan(), 21, 0, api.Frac{}, api.ErrRange},
		{examplePlan(), math.MinInt, 0, api.Frac{}, api.ErrRange},
		{examplePlan(), math.MaxInt, 0, api.Frac{}, api.ErrRange},
		{examplePlan(), 20, -1, api.Frac{}, api.ErrRange},
		{examplePlan(), 20, 10, api.Frac{}, api.ErrRange},
		{examplePlan(), 1, 1, api.Frac{}, api.ErrRange},
		{examplePlan(), 2, 1, api.Frac{}, api.ErrRange},
		{examplePlan(), 20, math.MinInt, api.Frac{}, api.ErrRange},
		{examplePlan(), 20, math.MaxInt, api.Frac{}, api.ErrRange},
		{examplePlan(), 20, math.MaxInt/2 + 1, api.Frac{}, api.ErrRange},
	} {
		f, e := monitor.AlarmBound(x.p, x.parts, x.trim)
		want(t, "AlarmBound", f, e, x.f, x.e)
	}
	plans(50, func(_ *rand.Rand, p api.MonitorPlan, _ int) {
		for parts := 1; parts <= api.MaxMonitorParts; parts++ {
			for trim := 0; 2*trim < parts; trim++ {
				bound := big.NewRat(int64(2*(trim+1)*len(p.Channels)*p.Ticks), int64(parts+1))
				if bound.Cmp(big.NewRat(1, 1)) > 0 {
					bound.SetInt64(1)
				}
				f, e := monitor.AlarmBound(p, parts, trim)
				want(t, "AlarmBound", f, e, api.Frac{Num: int(bound.Num().Int64()), Den: int(bound.Denom().Int64())}, api.OK)
			}
		}
	})
}

// P7.4, example 5
func TestAlarmsAmong(t *testing.T) {
	three := records(a(), b(), c())
	for _, x := range []struct {
		l      []api.MonitorRecord
		trim   int
		alarms []int
		e      api.Errno
	}{
		{three, 0, []int{0, 1, 2}, api.OK},
		{slices.Repeat(records(a()), 3), 0, nil, api.OK},
		{slices.Repeat(records(a()), 20), 9, nil, api.OK},
		{records(a(), a(), b(), a()), 0, []int{2}, api.OK},
		{records(a(), a(), b(), a()), 1, []int{2}, api.OK},
		{records(a(), b(), b(), a()), 0, nil, api.OK},
		{records(a(), b(), b(), a()), 1, []int{0, 1, 2, 3}, api.OK},
		{records(a(), b()), 0, []int{0, 1}, api.OK},
		{records(a(), a()), 0, nil, api.OK},
		{nil, 0, nil, api.ErrShape},
		{slices.Repeat(three, 7), 0, nil, api.ErrLarge},
		{records(a(), record(lost(), known(1, 1))), -1, nil, api.ErrGap},
		{records(record(lost(), known(1, 1))), -1, nil, api.ErrGap},
		{records(a()), 0, nil, api.ErrNone},
		{records(a()), -1, nil, api.ErrNone},
		{records(a()), 5, nil, api.ErrNone},
		{three, -1, nil, api.ErrRange},
		{three, 1, nil, api.ErrRange},
		{records(a(), a()), 1, nil, api.ErrRange},
		{records(a(), a(), b(), a()), 2, nil, api.ErrRange},
		{slices.Repeat(records(a()), 20), 10, nil, api.ErrRange},
		{three, math.MaxInt, nil, api.ErrRange},
		{three, math.MinInt, nil, api.ErrRange},
	} {
		l, e := monitor.AlarmsAmong(examplePlan(), x.l, x.trim)
		want(t, "AlarmsAmong", l, e, x.alarms, x.e)
	}
}

// isAlarm is whether, for some tick and channel of a record, at most as many others as the trim are not less, or not greater.
func isAlarm(p api.MonitorPlan, l []api.MonitorRecord, index, trim int) bool {
	for tick := range p.Ticks {
		for channel := range p.Channels {
			value := l[index].Rows[tick].Values[channel]
			// The record itself is counted, too.
			notLess := count(l, tick, channel, func(n int) bool { return n >= value }) - 1
			notGreater := count(l, tick, channel, func(n int) bool { return n <= value }) - 1
			if min(notLess, notGreater) <= trim {
				return true
			}
		}
	}
	return false
}

// P7.4, P7.11: the alarms by counting, and their number
func TestAlarmsByCounting(t *testing.T) {
	plans(900, func(random *rand.Rand, p api.MonitorPlan, most int) {
		p.Channels = p.Channels[:between(random, 1, min(2, len(p.Channels)))]
		p.Ticks = between(random, 1, 3)
		l := someRecords(random, p, between(random, 2, api.MaxMonitorParts), most)
		for trim := range len(l) / 2 {
			var wanted []int
			for i := range l {
				if isAlarm(p, l, i, trim) {
					wanted = append(wanted, i)
				}
			}
			alarms, e := monitor.AlarmsAmong(p, l, trim)
			want(t, "AlarmsAmong", alarms, e, wanted, api.OK)
			if len(alarms) > 2*(trim+1)*len(p.Channels)*p.Ticks {
				t.Errorf("AlarmsAmong: %d alarms", len(alarms))
			}
		}
	})
}

// R3: arguments are not modified, and the rows of an envelope share no memory
func TestMemoryOfEnvelopes(t *testing.T) {
	l := records(c(), b(), a())
	x, _ := monitor.EnvelopeOf(examplePlan(), l, 0)
	_, _ = monitor.AlarmsAmong(examplePlan(), l, 0)
	want(t, "EnvelopeOf", l, api.OK, records(c(), b(), a()), api.OK)
	_ = append(x.Rows[0], span(7, 7))
	x.Rows[0][0] = span(0, 0)
	want(t, "EnvelopeOf", x.Rows[1], api.OK, row(11, 12, 4, 5), api.OK)
}
