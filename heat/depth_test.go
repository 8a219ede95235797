package heat_test

import (
	"math"
	"math/big"
	"math/rand"
	"slices"
	"testing"

	"martensite/api"
	"martensite/heat"
)

// someKelvin is a temperature, mostly one in the table, often that of a cell.
func someKelvin(random *rand.Rand, s api.HeatSetup, e []int) int {
	switch random.Intn(4) {
	case 0:
		return between(random, api.MinHeatKelvin, api.MaxHeatKelvin)
	case 1:
		return floorOf(exactKelvin(s, e[random.Intn(len(e))]))
	}
	return between(random, s.Table[0].Kelvin, s.Table[len(s.Table)-1].Kelvin)
}

// isHotter is whether the temperature of an energy of a state is greater than another one.
func isHotter(s api.HeatSetup, e []int, kelvin int) bool {
	return slices.ContainsFunc(e, func(energy int) bool {
		return exactKelvin(s, energy).Cmp(big.NewRat(int64(kelvin), 1)) > 0
	})
}

// P3.5, example 5
func TestDepthAbove(t *testing.T) {
	for _, x := range []struct {
		state         []int
		kelvin, depth int
	}{
		{[]int{800, 300, 100}, 450, 2},
		{[]int{800, 300, 100}, 451, 1},
		{[]int{800, 300, 100}, 350, 3},
		{[]int{800, 300, 100}, 351, 2},
		{[]int{800, 300, 100}, 700, 1},
		{[]int{800, 300, 100}, 701, 0},
		{[]int{800, 300, 100}, api.MinHeatKelvin, 3},
		{[]int{3000, 3000, 3000}, 1300, 3},
		{[]int{3000, 3000, 3000}, api.MaxHeatKelvin, 0},
		// A cell below the first cold one does not count.
		{[]int{800, 0, 800}, 500, 1},
		{[]int{0, 800, 800}, 500, 0},
		// 300.5 and 800.25 kelvins.
		{[]int{1, 0, 0}, 300, 3},
		{[]int{1, 0, 0}, 301, 0},
		{[]int{1001, 1000, 999}, 800, 2},
		{[]int{1001, 1000, 999}, 801, 0},
	} {
		n, f := heat.DepthAbove(example(), x.state, x.kelvin)
		want(t, "DepthAbove", n, f, x.depth, api.OK)
	}
	setups(func(random *rand.Rand, s api.HeatSetup) {
		e := someState(random, s)
		kelvin := someKelvin(random, s, e)
		n, f := heat.DepthAbove(s, e, kelvin)
		want(t, "DepthAbove", n, f, exactDepth(s, e, kelvin), api.OK)
	})
}

// P3.5: depths, and the first tick that is too hot, by the definition
func TestHistories(t *testing.T) {
	var within, broken, never int
	setups(func(random *rand.Rand, s api.HeatSetup) {
		b := someBox(random, s)
		x := api.HeatHistory{Kelvin: someKelvin(random, s, b.Hi)}
		for range random.Intn(6) {
			x.Spans = append(x.Spans, someSpan(random, s))
		}
		lower, upper := ends(x.Spans)
		lo, _, f := exactRun(s, b.Lo, lower)
		hi, _, g := exactRun(s, b.Hi, upper)
		whole := f == api.OK && g == api.OK
		depths, f := heat.DepthsOf(s, b, x)
		if whole {
			least, most := highest(append(lo, b.Lo)...), highest(append(hi, b.Hi)...)
			want(t, "DepthsOf", depths, f, span(exactDepth(s, least, x.Kelvin), exactDepth(s, most, x.Kelvin)), api.OK)
		} else {
			want(t, "DepthsOf", depths, f, api.Range{}, api.ErrBreak)
		}
		tick, f := heat.WithinLimit(s, b, x)
		for k, e := range slices.Concat([][]int{b.Hi}, hi[:min(len(lo), len(hi))]) {
			if isHotter(s, e, x.Kelvin) {
				within++
				want(t, "WithinLimit", tick, f, k, api.OK)
				return
			}
		}
		if whole {
			never++
			want(t, "WithinLimit", tick, f, 0, api.ErrNone)
		} else {
			broken++
			want(t, "WithinLimit", tick, f, 0, api.ErrBreak)
		}
	})
	if min(within, broken, never) < 50 {
		t.Errorf("%d within, %d broken, %d never", within, broken, never)
	}
}

// P3.5: the depths come from the maxima of all ticks, not from the last one
func TestDepthsOfPeaks(t *testing.T) {
	s := plain(2, 0)
	s.Laws = append(s.Laws, law(300, 100))
	b := box([]int{100, 0}, []int{100, 50})
	x := api.HeatHistory{Kelvin: 400}
	x.Spans = []api.HeatSpan{spanOf(span(1, 1), span(0, 100), span(0, 0)), spanOf(span(1, 1), span(100, 100), span(100, 150))}
	r, f := heat.DepthsOf(s, b, x)
	want(t, "DepthsOf", r, f, span(2, 2), api.OK)
	x.Spans[1].Powers[1].Lo = 99
	r, f = heat.DepthsOf(s, b, x)
	want(t, "DepthsOf", r, f, span(1, 2), api.OK)
	b.Lo[0] = 99
	r, f = heat.DepthsOf(s, box([]int{100, 0}, []int{100, 50}), api.HeatHistory{Spans: x.Spans[:1], Kelvin: 400})
	want(t, "DepthsOf one span", r, f, span(1, 1), api.OK)
	x.Spans[0].Powers[0].Lo = 1
	r, f = heat.DepthsOf(s, b, x)
	want(t, "DepthsOf", r, f, span(0, 2), api.OK)
	x.Kelvin = 401
	r, f = heat.DepthsOf(s, b, x)
	want(t, "DepthsOf", r, f, span(0, 0), api.OK)
	// Without spans only the box itself counts.
	r, f = heat.DepthsOf(s, box([]int{99, 0}, []int{100, 100}), api.HeatHistory{Kelvin: 400})
	want(t, "DepthsOf", r, f, span(0, 2), api.OK)
}

// P3.5
func TestWithinLimit(t *testing.T) {
	s := plain(2, 0)
	warm := spanOf(span(0, 0), span(0, 100), span(0, 0))
	b := box([]int{0, 0}, []int{100, 400})
	for _, x := range []struct {
		kelvin, spans, tick int
		e                   api.Errno
	}{
		{699, 0, 0, api.OK},
		{700, 0, 0, api.ErrNone},
		{700, 3, 0, api.ErrNone},
		{700, 4, 4, api.OK},
		{699, 20, 0, api.OK},
		{799, 20, 4, api.OK},
		{800, 20, 5, api.OK},
		{1299, 20, 9, api.OK},
		{1300, 9, 0, api.ErrNone},
		{1300, 10, 0, api.ErrBreak},
		{api.MaxHeatKelvin, 9, 0, api.ErrNone},
		{api.MaxHeatKelvin, 20, 0, api.ErrBreak},
		{api.MinHeatKelvin, 20, 0, api.OK},
	} {
		n, f := heat.WithinLimit(s, b, api.HeatHistory{Spans: slices.Repeat([]api.HeatSpan{warm}, x.spans), Kelvin: x.kelvin})
		want(t, "WithinLimit", n, f, x.tick, x.e)
	}
	// A fraction of a kelvin is enough.
	for kelvin, e := range map[int]api.Errno{300: api.OK, 301: api.ErrNone} {
		n, f := heat.WithinLimit(example(), box([]int{0, 0, 0}, []int{0, 0, 1}), api.HeatHistory{Kelvin: kelvin})
		want(t, "WithinLimit", n, f, 0, e)
	}
}

// P3.5: a step of Lo that leaves the table comes before the tick after it
func TestWithinLimitOfLo(t *testing.T) {
	s := plain(1, 0)
	s.Laws = append(s.Laws, law(300, 100))
	cool := spanOf(span(0, 1), span(0, 10))
	for _, x := range []struct {
		lo, kelvin, tick int
		e                api.Errno
	}{
		{200, 819, 2, api.OK},
		{200, 820, 0, api.ErrBreak},
		{100, 819, 0, api.ErrBreak},
		{100, 809, 1, api.OK},
		{99, 809, 0, api.ErrBreak},
		{99, 799, 0, api.OK},
	} {
		n, f := heat.WithinLimit(s, box([]int{x.lo}, []int{500}), api.HeatHistory{Spans: []api.HeatSpan{cool, cool, cool}, Kelvin: x.kelvin})
		want(t, "WithinLimit", n, f, x.tick, x.e)
	}
}

// P3.5: the error of a temperature
func TestErrorsOfDepthsAndLimits(t *testing.T) {
	state := []int{0, 0, 0}
	leaving := []api.HeatSpan{point(drive(0, 3001, 0, 0))}
	for _, kelvin := range []int{199, 3001, 0, -1, math.MinInt, math.MaxInt} {
		n, f := heat.DepthAbove(example(), state, kelvin)
		want(t, "DepthAbove", n, f, 0, api.ErrRange)
		x := api.HeatHistory{Spans: leaving, Kelvin: kelvin}
		r, f := heat.DepthsOf(example(), box(state, state), x)
		want(t, "DepthsOf", r, f, api.Range{}, api.ErrRange)
		n, f = heat.WithinLimit(example(), box(state, state), x)
		want(t, "WithinLimit", n, f, 0, api.ErrRange)
		for _, b := range badSpans() {
			x.Spans = []api.HeatSpan{b.d}
			r, f := heat.DepthsOf(example(), box(state, state), x)
			want(t, "DepthsOf", r, f, api.Range{}, b.e)
			n, f := heat.WithinLimit(example(), box(state, state), x)
			want(t, "WithinLimit", n, f, 0, b.e)
		}
	}
}

// P3.5, example 6
func TestShortestTo(t *testing.T) {
	heated := drive(0, 100, 0, 0)
	for _, x := range []struct {
		d                         api.HeatDrive
		kelvin, depth, most, tick int
		e                         api.Errno
	}{
		{heated, 400, 1, 10, 3, api.OK},
		{heated, 400, 1, 3, 3, api.OK},
		{heated, 400, 1, 2, 0, api.ErrNone},
		{heated, 387, 1, 10, 2, api.OK},
		{heated, 388, 1, 10, 3, api.OK},
		{heated, 350, 1, 10, 1, api.OK},
		{heated, 351, 1, 10, 2, api.OK},
		{heated, 300, 3, 10, 0, api.OK},
		{heated, 300, 3, 0, 0, api.OK},
		{heated, 301, 1, 0, 0, api.ErrNone},
		{heated, api.MinHeatKelvin, 3, 200, 0, api.OK},
		{heated, api.MaxHeatKelvin, 1, 5, 0, api.ErrNone},
		{heated, api.MaxHeatKelvin, 1, 200, 0, api.ErrBreak},
		{drive(0, 0, 0, 0), 301, 1, 200, 0, api.ErrNone},
		// The step that leaves the table is the second one.
		{drive(0, 2000, 0, 0), 1050, 1, 1, 1, api.OK},
		{drive(0, 3000, 0, 0), 1300, 1, 200, 1, api.OK},
		{drive(0, 3000, 0, 0), 1300, 2, 1, 0, api.ErrNone},
		{drive(0, 3000, 0, 0), 1300, 2, 2, 0, api.ErrBreak},
		{drive(0, 3001, 0, 0), 1300, 1, 0, 0, api.ErrNone},
		{drive(0, 3001, 0, 0), 1300, 1, 1, 0, api.ErrBreak},
		{drive(0, 3001, 0, 0), 300, 1, 1, 0, api.OK},
	} {
		n, f := heat.ShortestTo(example(), []int{0, 0, 0}, api.HeatTask{Drive: x.d, Kelvin: x.kelvin, Depth: x.depth, Most: x.most})
		want(t, "ShortestTo", n, f, x.tick, x.e)
	}
}

// P3.5: the depth of the state counts, not that of its peaks
func TestShortestToIsOfStates(t *testing.T) {
	s := plain(2, 0)
	s.Laws = append(s.Laws, law(300, 100))
	n, f := heat.ShortestTo(s, []int{400, 0}, api.HeatTask{Drive: drive(1, 0, 100), Kelvin: 500, Depth: 1, Most: 3})
	want(t, "ShortestTo", n, f, 0, api.OK)
	n, f = heat.ShortestTo(s, []int{400, 0}, api.HeatTask{Drive: drive(1, 0, 100), Kelvin: 500, Depth: 2, Most: 3})
	want(t, "two cells in turn", n, f, 2, api.OK)
	n, f = heat.ShortestTo(s, []int{400, 0}, api.HeatTask{Drive: drive(1, 0, 100), Kelvin: 501, Depth: 2, Most: 3})
	want(t, "never both", n, f, 0, api.ErrNone)
}

// P3.5
func TestErrorsOfTasks(t *testing.T) {
	state := []int{0, 0, 0}
	for _, b := range badDrives() {
		n, f := heat.ShortestTo(example(), state, api.HeatTask{Drive: b.d, Kelvin: -1, Depth: -1, Most: -1})
		want(t, "ShortestTo", n, f, 0, b.e)
	}
	d := drive(0, 0, 0, 0)
	for _, x := range []api.HeatTask{
		{Drive: d, Kelvin: 199, Depth: 1, Most: 0},
		{Drive: d, Kelvin: 3001, Depth: 1, Most: 0},
		{Drive: d, Kelvin: math.MinInt, Depth: 1, Most: 0},
		{Drive: d, Kelvin: 300, Depth: 0, Most: 0},
		{Drive: d, Kelvin: 300, Depth: 4, Most: 0},
		{Drive: d, Kelvin: 300, Depth: -1, Most: 0},
		{Drive: d, Kelvin: 300, Depth: math.MaxInt, Most: 0},
		{Drive: d, Kelvin: 300, Depth: 1, Most: -1},
		{Drive: d, Kelvin: 300, Depth: 1, Most: 201},
		{Drive: d, Kelvin: 300, Depth: 1, Most: math.MaxInt},
	} {
		n, f := heat.ShortestTo(example(), state, x)
		want(t, "ShortestTo", n, f, 0, api.ErrRange)
	}
}

// P3.5, P3.12: the minimum time by the definition; more power needs no more ticks
func TestMinimumTime(t *testing.T) {
	var reached, broken, never int
	setups(func(random *rand.Rand, s api.HeatSetup) {
		e, d := someState(random, s), someDrive(random, s)
		x := api.HeatTask{Drive: d, Kelvin: someKelvin(random, s, e), Depth: 1 + random.Intn(s.Cells), Most: random.Intn(8)}
		n, f := heat.ShortestTo(s, e, x)
		run, _, wrong := exactRun(s, e, slices.Repeat([]api.HeatDrive{d}, x.Most))
		for k, state := range slices.Concat([][]int{e}, run) {
			if exactDepth(s, state, x.Kelvin) >= x.Depth {
				reached++
				want(t, "ShortestTo", n, f, k, api.OK)
				wantNoLonger(t, random, s, e, x, k)
				return
			}
		}
		if wrong == api.OK {
			never++
			want(t, "ShortestTo", n, f, 0, api.ErrNone)
		} else {
			broken++
			want(t, "ShortestTo", n, f, 0, api.ErrBreak)
		}
	})
	if min(reached, broken, never) < 50 {
		t.Errorf("%d reached, %d broken, %d never", reached, broken, never)
	}
}

// wantNoLonger asks that with more power no more ticks are needed, unless a step leaves the table.
func wantNoLonger(t *testing.T, random *rand.Rand, s api.HeatSetup, e []int, x api.HeatTask, ticks int) {
	t.Helper()
	x.Drive.Powers = slices.Clone(x.Drive.Powers)
	for i := range x.Drive.Powers {
		x.Drive.Powers[i] = min(x.Drive.Powers[i]+random.Intn(20), api.MaxHeatPower)
	}
	n, f := heat.ShortestTo(s, e, x)
	if f != api.ErrBreak && (f != api.OK || n > ticks) {
		t.Errorf("more power needs %d ticks, %d, not %d", n, f, ticks)
	}
}
