package monitor_test

import (
	"fmt"
	"math"
	"math/rand"
	"strconv"
	"testing"

	"martensite/api"
)

// same compares two values as they are printed, so that nil and empty slices are equal.
func same(a, b any) bool { return fmt.Sprintf("%+v", a) == fmt.Sprintf("%+v", b) }

// want compares a result and an error with those that are expected.
func want(t *testing.T, what string, got any, e api.Errno, value any, f api.Errno) {
	t.Helper()
	if !same(got, value) || e != f {
		t.Errorf("%s: %+v, %d, want %+v, %d", what, got, e, value, f)
	}
}

// plan is a plan.
func plan(ticks int, channels ...string) api.MonitorPlan {
	return api.MonitorPlan{Channels: channels, Ticks: ticks}
}

// frame is a frame.
func frame(tick int, values ...int) api.MonitorFrame {
	return api.MonitorFrame{Tick: tick, Values: values}
}

// frames is a list of frames.
func frames(l ...api.MonitorFrame) []api.MonitorFrame { return l }

// known is a row with values, lost is one without.
func known(values ...int) api.MonitorRow { return api.MonitorRow{Known: true, Values: values} }
func lost() api.MonitorRow               { return api.MonitorRow{} }

// record is a record of rows, records is a list of records.
func record(rows ...api.MonitorRow) api.MonitorRecord { return api.MonitorRecord{Rows: rows} }
func records(l ...api.MonitorRecord) []api.MonitorRecord {
	return l
}

// span is a range.
func span(lo, hi int) api.Range { return api.Range{Lo: lo, Hi: hi} }

// row is ranges, of which all ends are given.
func row(ends ...int) []api.Range {
	var l []api.Range
	for i := 0; i < len(ends); i += 2 {
		l = append(l, span(ends[i], ends[i+1]))
	}
	return l
}

// envelope is an envelope.
func envelope(parts, trim int, rows ...[]api.Range) api.MonitorEnvelope {
	return api.MonitorEnvelope{Parts: parts, Trim: trim, Rows: rows}
}

// examplePlan is the plan of the document's examples; a, b and c are its records.
func examplePlan() api.MonitorPlan { return plan(2, "power", "flow") }
func a() api.MonitorRecord         { return record(known(10, 5), known(12, 5)) }
func b() api.MonitorRecord         { return record(known(11, 6), known(12, 4)) }
func c() api.MonitorRecord         { return record(known(13, 5), known(11, 5)) }

// exampleEnvelope is the envelope of a, b and c with the trim 0.
func exampleEnvelope() api.MonitorEnvelope {
	return envelope(3, 0, row(10, 13, 5, 6), row(11, 12, 4, 5))
}

// noRecord and noEnvelope are what is returned with an error.
func noRecord() api.MonitorRecord     { return api.MonitorRecord{} }
func noEnvelope() api.MonitorEnvelope { return api.MonitorEnvelope{} }

// badPlan is a plan with an error, and its index.
type badPlan struct {
	p     api.MonitorPlan
	index int
	e     api.Errno
}

// badPlans are plans with errors.
func badPlans() []badPlan {
	l := []badPlan{
		{plan(0), 0, api.ErrShape},
		{plan(2), 0, api.ErrShape},
		{plan(2, []string{}...), 0, api.ErrShape},
		{plan(2, "a", "b", "c", "d", "e"), 0, api.ErrLarge},
		{plan(0, "", "", "", "", ""), 0, api.ErrLarge},
		{plan(0, ""), 0, api.ErrName},
		{plan(0, "a", "b", "c", ""), 3, api.ErrName},
		{plan(0, "a", "a", ""), 1, api.ErrExists},
		{plan(0, "a", "b", "c", "b"), 3, api.ErrExists},
		{plan(2, "a", "b", "c", "a"), 3, api.ErrExists},
		{plan(2, "a", "", "a"), 1, api.ErrName},
		{plan(2, "1", "1"), 0, api.ErrName},
	}
	for _, name := range []string{"1", "-a", "a b", "a_", "abcdefghijklm", "\u00e9", "a\u00e9", "a.", " a", "a;", "[", "@", "`", "{", "a/", "a:", "a@", "a[", "a`", "a{"} {
		l = append(l, badPlan{plan(2, "a", name), 1, api.ErrName})
	}
	for _, ticks := range []int{-1, 0, 13, math.MinInt, math.MaxInt} {
		l = append(l, badPlan{plan(ticks, "a", "b"), 0, api.ErrRange})
	}
	return l
}

// between is a random number from lo to hi, often one of these.
func between(random *rand.Rand, lo, hi int) int {
	switch random.Intn(8) {
	case 0:
		return lo
	case 1:
		return hi
	}
	return lo + random.Intn(hi-lo+1)
}

// someValues are as many values as a plan has channels, which are at most so great in size.
func someValues(random *rand.Rand, p api.MonitorPlan, most int) []int {
	var l []int
	for range p.Channels {
		l = append(l, between(random, -most, most))
	}
	return l
}

// somePlan is a plan.
func somePlan(random *rand.Rand) api.MonitorPlan {
	p := plan(between(random, 1, api.MaxMonitorTicks))
	for i := range between(random, 1, api.MaxMonitorChannels) {
		p.Channels = append(p.Channels, "x"+strconv.Itoa(i*i*1000))
	}
	return p
}

// someRecords are whole records.
func someRecords(random *rand.Rand, p api.MonitorPlan, count, most int) []api.MonitorRecord {
	var l []api.MonitorRecord
	for range count {
		var r api.MonitorRecord
		for range p.Ticks {
			r.Rows = append(r.Rows, known(someValues(random, p, most)...))
		}
		l = append(l, r)
	}
	return l
}

// plans calls a function with random plans, and a size of values: small ones are often equal.
func plans(count int, do func(*rand.Rand, api.MonitorPlan, int)) {
	random := rand.New(rand.NewSource(7))
	for i := range count {
		do(random, somePlan(random), []int{2, 30, api.MaxMonitorValue}[i%3])
	}
}
