package monitor_test

import (
	"math"
	"math/rand"
	"slices"
	"testing"

	"martensite/api"
	"martensite/monitor"
)

// pass is a pass, passes is a list of passes.
func pass(part, from, to int) api.MonitorPass {
	return api.MonitorPass{Part: part, From: from, To: to}
}
func passes(l ...api.MonitorPass) []api.MonitorPass { return l }

// badPasses are passes with an error, and their index.
type badPasses struct {
	l     []api.MonitorPass
	index int
	e     api.Errno
}

// allBadPasses are passes with errors.
func allBadPasses() []badPasses {
	good := pass(7, 0, 4)
	return []badPasses{
		{slices.Repeat(passes(good), 31), 0, api.ErrLarge},
		{slices.Repeat(passes(pass(-1, 0, 0)), 31), 0, api.ErrLarge},
		{passes(pass(-1, 2, 1)), 0, api.ErrRange},
		{passes(good, pass(1000001, 1, 2)), 1, api.ErrRange},
		{passes(good, good, pass(math.MinInt, 1, 2)), 2, api.ErrRange},
		{passes(good, pass(math.MaxInt, 1, 2)), 1, api.ErrRange},
		{passes(good, pass(7, -1, 2)), 1, api.ErrRange},
		{passes(good, pass(7, 1, -2)), 1, api.ErrRange},
		{passes(pass(7, 1, api.MaxTick+1), good), 0, api.ErrRange},
		{passes(pass(7, api.MaxTick+1, api.MaxTick), good), 0, api.ErrRange},
		{passes(good, pass(7, math.MinInt, math.MaxInt)), 1, api.ErrRange},
		{passes(good, pass(7, 4, 3)), 1, api.ErrOrder},
		{passes(good, pass(7, api.MaxTick, 0)), 1, api.ErrOrder},
		{passes(good, pass(7, 4, 3), pass(-1, 0, 0)), 1, api.ErrOrder},
		{passes(good, pass(-1, 4, 3), pass(7, 4, 3)), 1, api.ErrRange},
	}
}

// P7.5
func TestCheckPasses(t *testing.T) {
	for _, x := range allBadPasses() {
		i, e := monitor.CheckPasses(x.l)
		want(t, "CheckPasses", i, e, x.index, x.e)
		parts, e := monitor.SpoiltBy(x.l, []int{-1})
		want(t, "SpoiltBy", parts, e, []int{}, x.e)
	}
	for _, l := range [][]api.MonitorPass{
		nil,
		passes(),
		passes(pass(7, 0, 4), pass(8, 3, 9)),
		passes(pass(0, 0, 0), pass(1000000, api.MaxTick, api.MaxTick), pass(0, 0, api.MaxTick)),
		slices.Repeat(passes(pass(7, 1, 1)), 30),
	} {
		i, e := monitor.CheckPasses(l)
		want(t, "CheckPasses", i, e, 0, api.OK)
	}
}

// P7.5, example 6
func TestSpoiltBy(t *testing.T) {
	two := passes(pass(7, 0, 4), pass(8, 3, 9))
	thirty := slices.Repeat([]int{4}, 30)
	for _, x := range []struct {
		l     []api.MonitorPass
		ticks []int
		parts []int
		e     api.Errno
	}{
		{two, []int{2}, []int{7}, api.OK},
		{two, []int{4}, []int{7, 8}, api.OK},
		{two, []int{0}, []int{7}, api.OK},
		{two, []int{9}, []int{8}, api.OK},
		{two, []int{3}, []int{7, 8}, api.OK},
		{two, []int{10}, nil, api.OK},
		{two, []int{9, 0}, []int{7, 8}, api.OK},
		{two, []int{api.MaxTick, 5, 5}, []int{8}, api.OK},
		{two, nil, nil, api.OK},
		{two, []int{}, nil, api.OK},
		{two, thirty, []int{7, 8}, api.OK},
		{nil, []int{4}, nil, api.OK},
		{passes(pass(9, 0, 1), pass(3, 0, 1), pass(9, 5, 6), pass(0, 1, 1), pass(3, 8, 9)), []int{1, 5}, []int{0, 3, 9}, api.OK},
		{passes(pass(9, 0, 1), pass(3, 0, 1), pass(9, 5, 6)), []int{5}, []int{9}, api.OK},
		{two, append(thirty, 4), nil, api.ErrLarge},
		{two, append(thirty, -1), nil, api.ErrLarge},
		{two, []int{4, -1}, nil, api.ErrRange},
		{two, []int{api.MaxTick + 1}, nil, api.ErrRange},
		{two, []int{math.MinInt}, nil, api.ErrRange},
		{nil, []int{math.MaxInt}, nil, api.ErrRange},
	} {
		parts, e := monitor.SpoiltBy(x.l, x.ticks)
		want(t, "SpoiltBy", parts, e, x.parts, x.e)
	}
}

// P7.5: parts are looked for one by one
func TestSpoiltParts(t *testing.T) {
	random := rand.New(rand.NewSource(75))
	for range 1000 {
		var l []api.MonitorPass
		for range random.Intn(api.MaxMonitorPasses + 1) {
			from := random.Intn(20)
			l = append(l, pass(random.Intn(9), from, from+random.Intn(4)))
		}
		ticks := random.Perm(25)[:random.Intn(5)]
		var wanted []int
		for part := range 9 {
			for _, x := range l {
				if x.Part == part && slices.ContainsFunc(ticks, func(tick int) bool { return tick >= x.From && tick <= x.To }) {
					wanted = append(wanted, part)
					break
				}
			}
		}
		before := slices.Clone(l)
		parts, e := monitor.SpoiltBy(l, ticks)
		want(t, "SpoiltBy", parts, e, wanted, api.OK)
		want(t, "SpoiltBy", l, api.OK, before, api.OK)
	}
}

// These are events.
func loaded(part int) api.MonitorEvent {
	return api.MonitorEvent{Kind: api.MonitorLoaded, Part: part}
}
func passed(part int) api.MonitorEvent {
	return api.MonitorEvent{Kind: api.MonitorPassed, Part: part}
}
func marked(part int) api.MonitorEvent {
	return api.MonitorEvent{Kind: api.MonitorMarked, Part: part}
}
func good(part int) api.MonitorEvent {
	return api.MonitorEvent{Kind: api.MonitorByGood, Part: part}
}
func bad(part int) api.MonitorEvent {
	return api.MonitorEvent{Kind: api.MonitorByBad, Part: part}
}
func events(l ...api.MonitorEvent) []api.MonitorEvent { return l }

// counts is how many parts are inside, and how many left by each chute.
func counts(inside, good, bad int) api.MonitorCounts {
	return api.MonitorCounts{Inside: inside, Good: good, Bad: bad}
}

// manyLoaded are so many events of parts that are loaded.
func manyLoaded(n int) []api.MonitorEvent {
	var l []api.MonitorEvent
	for part := range n {
		l = append(l, loaded(part))
	}
	return l
}

// P7.6, example 7 and edge cases of marks and of the bad chute
func TestRunOf(t *testing.T) {
	for _, x := range []struct {
		l []api.MonitorEvent
		c api.MonitorCounts
	}{
		{nil, counts(0, 0, 0)},
		{events(), counts(0, 0, 0)},
		{events(loaded(7), passed(7), loaded(8), marked(8), good(7), bad(8)), counts(0, 1, 1)},
		{events(loaded(7), passed(7), loaded(8), marked(8), good(7)), counts(1, 1, 0)},
		{events(loaded(0), loaded(1000000)), counts(2, 0, 0)},
		{events(loaded(7), bad(7)), counts(0, 0, 1)},
		{events(loaded(7), passed(7), bad(7)), counts(0, 0, 1)},
		{events(loaded(7), passed(7), marked(7), bad(7)), counts(0, 0, 1)},
		{events(loaded(7), marked(7), bad(7), loaded(8)), counts(1, 0, 1)},
		{manyLoaded(60), counts(60, 0, 0)},
	} {
		c, i, e := monitor.RunOf(x.l)
		want(t, "RunOf", []any{c, i}, e, []any{x.c, 0}, api.OK)
	}
}

// badEvents are events with an error, and the index.
type badEvents struct {
	l     []api.MonitorEvent
	index int
	e     api.Errno
}

// allBadEvents are events with errors.
func allBadEvents() []badEvents {
	kind := func(kind, part int) api.MonitorEvent { return api.MonitorEvent{Kind: kind, Part: part} }
	ready := events(loaded(7), passed(7), loaded(8), marked(8), good(7))
	l := []badEvents{
		{append(manyLoaded(60), bad(0)), 0, api.ErrLarge},
		{slices.Repeat(events(kind(-1, -1)), 61), 0, api.ErrLarge},
		{events(good(7)), 0, api.ErrMissing},
		{events(loaded(8), passed(8), good(8), kind(5, 0)), 3, api.ErrKind},
	}
	for _, x := range []struct {
		last api.MonitorEvent
		e    api.Errno
	}{
		{kind(5, 8), api.ErrKind},
		{kind(-1, -1), api.ErrKind},
		{kind(math.MinInt, 8), api.ErrKind},
		{kind(math.MaxInt, 1000001), api.ErrKind},
		{loaded(-1), api.ErrRange},
		{loaded(1000001), api.ErrRange},
		{passed(math.MinInt), api.ErrRange},
		{marked(math.MaxInt), api.ErrRange},
		{good(-1), api.ErrRange},
		{bad(1000001), api.ErrRange},
		{loaded(7), api.ErrExists},
		{loaded(8), api.ErrExists},
		{passed(7), api.ErrMissing},
		{marked(7), api.ErrMissing},
		{good(7), api.ErrMissing},
		{bad(7), api.ErrMissing},
		{passed(9), api.ErrMissing},
		{marked(9), api.ErrMissing},
		{good(9), api.ErrMissing},
		{bad(9), api.ErrMissing},
		{passed(8), api.ErrState},
		{marked(8), api.ErrState},
		{good(8), api.ErrRefused},
	} {
		l = append(l,
			badEvents{append(slices.Clone(ready), x.last), 5, x.e},
			badEvents{append(slices.Clone(ready), x.last, kind(9, 9)), 5, x.e})
	}
	return append(l,
		badEvents{events(loaded(3), good(3)), 1, api.ErrRefused},
		badEvents{events(loaded(3), passed(3), passed(3)), 2, api.ErrState},
		badEvents{events(loaded(3), passed(3), marked(3), good(3)), 3, api.ErrRefused},
		badEvents{events(loaded(3), passed(3), marked(3), passed(3)), 3, api.ErrState},
		badEvents{events(loaded(3), passed(3), marked(3), marked(3)), 3, api.ErrState},
		badEvents{events(loaded(3), bad(3), loaded(3)), 2, api.ErrExists},
		badEvents{events(loaded(3), bad(3), bad(3)), 2, api.ErrMissing},
		badEvents{events(loaded(3), passed(3), good(3), good(3)), 3, api.ErrMissing},
		badEvents{events(loaded(3), passed(3), good(3), loaded(3)), 3, api.ErrExists})
}

// P7.6: errors of events
func TestErrorsOfRunOf(t *testing.T) {
	for _, x := range allBadEvents() {
		c, i, e := monitor.RunOf(x.l)
		want(t, "RunOf", []any{c, i}, e, []any{counts(0, 0, 0), x.index}, x.e)
		for _, part := range []int{-1, 7, 8} {
			is, e := monitor.MayLeave(x.l, part)
			want(t, "MayLeave", is, e, false, x.e)
		}
	}
}

// P7.6
func TestMayLeave(t *testing.T) {
	l := events(loaded(7), passed(7), loaded(8), marked(8), loaded(9), loaded(6), passed(6), marked(6), loaded(5), passed(5), good(5), loaded(4), passed(4), bad(4))
	for _, x := range []struct {
		part int
		is   bool
		e    api.Errno
	}{
		{7, true, api.OK},
		{8, false, api.OK},
		{9, false, api.OK},
		{6, false, api.OK},
		{5, false, api.OK},
		{4, false, api.OK},
		{3, false, api.OK},
		{0, false, api.OK},
		{1000000, false, api.OK},
		{-1, false, api.ErrRange},
		{1000001, false, api.ErrRange},
		{math.MinInt, false, api.ErrRange},
		{math.MaxInt, false, api.ErrRange},
	} {
		is, e := monitor.MayLeave(l, x.part)
		want(t, "MayLeave", is, e, x.is, x.e)
	}
	is, e := monitor.MayLeave(nil, 0)
	want(t, "MayLeave", is, e, false, api.OK)
	is, e = monitor.MayLeave(events(loaded(0), passed(0)), 0)
	want(t, "MayLeave", is, e, true, api.OK)
}

// errorAfter is the error of an event after others without errors; all are looked through for what has happened to its part.
func errorAfter(before []api.MonitorEvent, x api.MonitorEvent) api.Errno {
	has := func(f func(int) api.MonitorEvent) bool { return slices.Contains(before, f(x.Part)) }
	isInside := has(loaded) && !has(good) && !has(bad)
	switch {
	case x.Kind == api.MonitorLoaded && has(loaded):
		return api.ErrExists
	case x.Kind == api.MonitorLoaded:
		return api.OK
	case !isInside:
		return api.ErrMissing
	case x.Kind == api.MonitorPassed && (has(passed) || has(marked)), x.Kind == api.MonitorMarked && has(marked):
		return api.ErrState
	case x.Kind == api.MonitorByGood && (!has(passed) || has(marked)):
		return api.ErrRefused
	}
	return api.OK
}

// P7.6, P7.12: random events; each of them is judged by all events before
func TestHistories(t *testing.T) {
	random := rand.New(rand.NewSource(76))
	for range 500 {
		var l []api.MonitorEvent
		for len(l) < api.MaxMonitorEvents {
			x := api.MonitorEvent{Kind: random.Intn(api.MonitorKinds), Part: random.Intn(12)}
			_, i, e := monitor.RunOf(append(slices.Clone(l), x))
			if wanted := errorAfter(l, x); wanted != api.OK {
				want(t, "RunOf", i, e, len(l), wanted)
				if random.Intn(20) == 0 {
					break
				}
				continue
			}
			want(t, "RunOf", i, e, 0, api.OK)
			l = append(l, x)
		}
		checkHistory(t, l)
	}
}

// checkHistory checks what follows from events without errors.
func checkHistory(t *testing.T, l []api.MonitorEvent) {
	t.Helper()
	var wanted api.MonitorCounts
	isLoaded := 0
	for part := range 12 {
		has := func(f func(int) api.MonitorEvent) bool { return slices.Contains(l, f(part)) }
		is, e := monitor.MayLeave(l, part)
		want(t, "MayLeave", is, e, errorAfter(l, good(part)) == api.OK, api.OK)
		if has(loaded) {
			isLoaded++
		}
		switch {
		case has(good):
			wanted.Good++
			if !has(loaded) || !has(passed) || has(marked) {
				t.Errorf("part %d left by the good chute: %+v", part, l)
			}
		case has(bad):
			wanted.Bad++
		case has(loaded):
			wanted.Inside++
		}
	}
	c, _, e := monitor.RunOf(l)
	want(t, "RunOf", c, e, wanted, api.OK)
	if c.Inside+c.Good+c.Bad != isLoaded {
		t.Errorf("RunOf: %+v of %d parts", c, isLoaded)
	}
}
