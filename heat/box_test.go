package heat_test

import (
	"math"
	"math/rand"
	"slices"
	"testing"

	"martensite/api"
	"martensite/heat"
)

// badSpan is a span of the set-up of the examples with an error.
type badSpan struct {
	d api.HeatSpan
	e api.Errno
}

// spanOf is a span of ranges and of laws.
func spanOf(laws api.Range, powers ...api.Range) api.HeatSpan {
	return api.HeatSpan{Powers: powers, Laws: laws}
}

// point is a span with one drive.
func point(d api.HeatDrive) api.HeatSpan {
	x := spanOf(span(d.Law, d.Law))
	for _, n := range d.Powers {
		x.Powers = append(x.Powers, span(n, n))
	}
	return x
}

// badSpans are spans with errors.
func badSpans() []badSpan {
	zero, back := api.Range{}, span(5, 4)
	return []badSpan{
		{api.HeatSpan{}, api.ErrShape},
		{spanOf(span(2, -1), span(-1, 0), back), api.ErrShape},
		{spanOf(zero, zero, zero, zero, zero), api.ErrShape},
		{spanOf(span(9, 9), span(-1, 0), back, zero), api.ErrRange},
		{spanOf(zero, zero, zero, span(0, 10001)), api.ErrRange},
		{spanOf(zero, zero, span(10001, 0), back), api.ErrRange},
		{spanOf(zero, span(0, -1), zero, zero), api.ErrRange},
		{spanOf(zero, span(math.MinInt, math.MaxInt), zero, zero), api.ErrRange},
		{spanOf(span(9, 9), back, span(-1, 0), zero), api.ErrOrder},
		{spanOf(span(9, 9), zero, zero, span(10000, 9999)), api.ErrOrder},
		{spanOf(span(-1, 0), zero, zero, zero), api.ErrMissing},
		{spanOf(span(2, 2), zero, zero, zero), api.ErrMissing},
		{spanOf(span(2, 1), zero, zero, zero), api.ErrMissing},
		{spanOf(span(0, 2), zero, zero, zero), api.ErrMissing},
		{spanOf(span(1, -1), zero, zero, zero), api.ErrMissing},
		{spanOf(span(math.MinInt, math.MaxInt), zero, zero, zero), api.ErrMissing},
		{spanOf(span(1, 0), zero, zero, zero), api.ErrOrder},
	}
}

// wantHistoryError asks all functions of a history that have an error.
func wantHistoryError(t *testing.T, s api.HeatSetup, b api.HeatBox, l []api.HeatSpan, wanted api.Errno) {
	t.Helper()
	boxes, f := heat.BoxRun(s, b, l)
	want(t, "BoxRun", boxes, f, []int{}, wanted)
	r, f := heat.DepthsOf(s, b, api.HeatHistory{Spans: l, Kelvin: 3000})
	want(t, "DepthsOf", r, f, api.Range{}, wanted)
	n, f := heat.WithinLimit(s, b, api.HeatHistory{Spans: l, Kelvin: 3000})
	want(t, "WithinLimit", n, f, 0, wanted)
}

// P3.4
func TestCheckBox(t *testing.T) {
	setups(func(random *rand.Rand, s api.HeatSetup) {
		b := someBox(random, s)
		i, f := heat.CheckBox(s, b)
		want(t, "CheckBox", i, f, 0, api.OK)
		i, f = heat.CheckBox(s, box(b.Lo, b.Lo))
		want(t, "CheckBox of a state", i, f, 0, api.OK)
	})
	good := []int{0, 3000, 0}
	for _, b := range badStates() {
		i, f := heat.CheckBox(example(), box(b.state, good))
		want(t, "CheckBox with an error of Lo", i, f, b.index, b.e)
		i, f = heat.CheckBox(example(), box(good, b.state))
		want(t, "CheckBox with an error of Hi", i, f, b.index, b.e)
		i, f = heat.CheckBox(example(), box(b.state, []int{-1}))
		want(t, "CheckBox with errors of both", i, f, b.index, b.e)
	}
	for _, x := range []struct {
		b     api.HeatBox
		index int
		e     api.Errno
	}{
		{box([]int{1, 0, 0}, []int{0, 0, 0}), 0, api.ErrOrder},
		{box([]int{1, 9, 1}, []int{1, 8, 0}), 1, api.ErrOrder},
		{box([]int{0, 0, 3000}, []int{3000, 3000, 0}), 2, api.ErrOrder},
		{box([]int{5, 0, 0}, []int{0, 0, 3001}), 2, api.ErrRange},
		{box([]int{5, 0, 0}, []int{0, 0}), 0, api.ErrShape},
		{box(nil, nil), 0, api.ErrShape},
		{box([]int{0, 5, 3000}, []int{0, 6, 3000}), 0, api.OK},
	} {
		i, f := heat.CheckBox(example(), x.b)
		want(t, "CheckBox", i, f, x.index, x.e)
	}
}

// P3.4, example 4
func TestBoxOfTheExample(t *testing.T) {
	begin := []int{1000, 200, 0}
	d := spanOf(span(0, 1), span(0, 10), api.Range{}, api.Range{})
	wanted := box([]int{640, 300, 100}, []int{810, 300, 100})
	b, f := heat.BoxStep(example(), box(begin, begin), d)
	want(t, "BoxStep", b, f, wanted, api.OK)
	l, f := heat.BoxRun(example(), box(begin, begin), []api.HeatSpan{d})
	want(t, "BoxRun", l, f, []api.HeatBox{wanted}, api.OK)
	l, f = heat.BoxRun(example(), box(begin, begin), nil)
	want(t, "BoxRun without spans", l, f, []api.HeatBox{}, api.OK)
}

// P3.4: boxes by the definition; a box leaves the table if one of its ends does
func TestBoxRuns(t *testing.T) {
	broken := 0
	setups(func(random *rand.Rand, s api.HeatSetup) {
		b := someBox(random, s)
		var l []api.HeatSpan
		for range random.Intn(6) {
			l = append(l, someSpan(random, s))
		}
		lower, upper := ends(l)
		lo, _, f := exactRun(s, b.Lo, lower)
		hi, _, g := exactRun(s, b.Hi, upper)
		if f != api.OK || g != api.OK {
			broken++
			boxes, f := heat.BoxRun(s, b, l)
			want(t, "BoxRun", boxes, f, []int{}, api.ErrBreak)
			return
		}
		var wanted []api.HeatBox
		for k := range lo {
			wanted = append(wanted, box(lo[k], hi[k]))
		}
		boxes, f := heat.BoxRun(s, b, l)
		want(t, "BoxRun", boxes, f, wanted, api.OK)
		if len(l) > 0 {
			x, f := heat.BoxStep(s, b, l[0])
			want(t, "BoxStep", x, f, wanted[0], api.OK)
		}
	})
	if broken < 100 || broken > 1400 {
		t.Errorf("%d of 1500 boxes leave the table", broken)
	}
}

// P3.4: Lo alone, or Hi alone, leaves the table
func TestBoxesThatLeaveTheTable(t *testing.T) {
	s := plain(1, 0)
	s.Laws = append(s.Laws, law(300, 100))
	for _, x := range []struct {
		b api.HeatBox
		d api.HeatSpan
		e api.Errno
	}{
		{box([]int{50}, []int{150}), spanOf(span(0, 1), span(0, 0)), api.ErrBreak},
		{box([]int{50}, []int{150}), spanOf(span(1, 1), span(50, 60)), api.OK},
		{box([]int{50}, []int{150}), spanOf(span(0, 0), span(0, 850)), api.OK},
		{box([]int{50}, []int{150}), spanOf(span(0, 0), span(0, 851)), api.ErrBreak},
		{box([]int{50}, []int{150}), spanOf(span(0, 1), span(49, 50)), api.ErrBreak},
		{box([]int{50}, []int{1000}), spanOf(span(1, 1), span(50, 100)), api.OK},
		{box([]int{50}, []int{1000}), spanOf(span(0, 1), span(50, 100)), api.ErrBreak},
	} {
		_, f := heat.BoxStep(s, x.b, x.d)
		want(t, "BoxStep", nil, f, nil, x.e)
		if x.e != api.OK {
			wantHistoryError(t, s, x.b, []api.HeatSpan{x.d}, x.e)
		}
	}
}

// P3.4, P3.5
func TestErrorsOfSpans(t *testing.T) {
	b := box([]int{0, 0, 0}, []int{0, 0, 0})
	good := point(drive(0, 0, 0, 0))
	for _, x := range badSpans() {
		y, f := heat.BoxStep(example(), b, x.d)
		want(t, "BoxStep", y, f, api.HeatBox{}, x.e)
		wantHistoryError(t, example(), b, []api.HeatSpan{x.d}, x.e)
		// All spans are checked before the first step, which leaves the table.
		wantHistoryError(t, example(), b, []api.HeatSpan{point(drive(0, 3001, 0, 0)), x.d, {}}, x.e)
		wantHistoryError(t, example(), b, append(slices.Repeat([]api.HeatSpan{good}, api.MaxHeatTicks), x.d), api.ErrLarge)
	}
	y, f := heat.BoxStep(withLaws(), b, good)
	want(t, "BoxStep without laws", y, f, api.HeatBox{}, api.ErrMissing)
	wantHistoryError(t, example(), b, slices.Repeat([]api.HeatSpan{good}, api.MaxHeatTicks+1), api.ErrLarge)
	l, f := heat.BoxRun(example(), b, slices.Repeat([]api.HeatSpan{good}, api.MaxHeatTicks))
	want(t, "the longest run", len(l), f, api.MaxHeatTicks, api.OK)
}

// P3.10: the run of a state in a box lies in the boxes, and the depths of its peaks in the depths
func TestEnclosed(t *testing.T) {
	enclosed := 0
	setups(func(random *rand.Rand, s api.HeatSetup) {
		b := someBox(random, s)
		var l []api.HeatSpan
		for range 1 + random.Intn(4) {
			l = append(l, someSpan(random, s))
		}
		boxes, f := heat.BoxRun(s, b, l)
		if f != api.OK {
			return
		}
		kelvin := between(random, s.Table[0].Kelvin, s.Table[len(s.Table)-1].Kelvin)
		depths, f := heat.DepthsOf(s, b, api.HeatHistory{Spans: l, Kelvin: kelvin})
		want(t, "DepthsOf", nil, f, nil, api.OK)
		for range 5 {
			enclosed++
			e := someWithin(random, b)
			var drives []api.HeatDrive
			for _, d := range l {
				drives = append(drives, someIn(random, d))
			}
			run, f := heat.RunOf(s, e, drives)
			want(t, "RunOf", len(run), f, len(boxes), api.OK)
			for k, state := range run {
				for i, energy := range state {
					if energy < boxes[k].Lo[i] || energy > boxes[k].Hi[i] {
						t.Errorf("%v does not lie in %v", state, boxes[k])
					}
				}
			}
			peaks, _ := heat.PeaksOf(s, e, drives)
			n, f := heat.DepthAbove(s, peaks, kelvin)
			if f != api.OK || n < depths.Lo || n > depths.Hi {
				t.Errorf("the depth %d, %d does not lie in %v", n, f, depths)
			}
		}
	})
	if enclosed < 1000 {
		t.Errorf("only %d runs were compared", enclosed)
	}
}

// R3: arguments are not modified, and results share no memory with them or with each other
func TestMemoryOfBoxes(t *testing.T) {
	state := []int{1000, 200, 0}
	b, d := box(state, state), point(drive(0, 0, 0, 0))
	l, _ := heat.BoxRun(example(), b, []api.HeatSpan{d, d})
	second := slices.Clone(l[1].Lo)
	for i := range state {
		l[0].Lo[i] = -1
	}
	want(t, "the state", state, api.OK, []int{1000, 200, 0}, api.OK)
	want(t, "the span", d, api.OK, point(drive(0, 0, 0, 0)), api.OK)
	want(t, "the other end", l[0].Hi, api.OK, []int{800, 300, 100}, api.OK)
	want(t, "the second box", l[1].Lo, api.OK, second, api.OK)
}
