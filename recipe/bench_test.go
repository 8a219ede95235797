package recipe_test

import (
	"math"
	"math/rand"
	"slices"
	"testing"

	"martensite/api"
	"martensite/heat"
	"martensite/recipe"
)

// badBench is a bench with an error, and the index of the weight that has it.
type badBench struct {
	b     api.RecipeBench
	index int
	e     api.Errno
}

// weighted is the bench of the examples with these weights.
func weighted(l ...api.Range) api.RecipeBench {
	return changed(func(b *api.RecipeBench) { b.Weights = l })
}

// badBenches are benches with errors; where there are several, the one that is listed first.
func badBenches() []badBench {
	zero := api.Range{}
	l := []badBench{
		{api.RecipeBench{}, 0, api.ErrRange},
		{changed(func(b *api.RecipeBench) { b.Setup.Table[1].Kelvin, b.Start.Lo = 200, nil }), 0, api.ErrOrder},
		{changed(func(b *api.RecipeBench) { b.Setup.Table = nil }), 0, api.ErrShape},
		{changed(func(b *api.RecipeBench) { b.Setup.Laws[1] = nil }), 0, api.OK},
		{changed(func(b *api.RecipeBench) { b.Setup.Laws[0], b.Setup.Laws[1] = b.Setup.Laws[1], nil }), 0, api.ErrClash},
		{changed(func(b *api.RecipeBench) { b.Start.Lo, b.Weights = nil, nil }), 0, api.ErrShape},
		{changed(func(b *api.RecipeBench) { b.Start.Lo[2], b.Weights = 3001, nil }), 0, api.ErrRange},
		{changed(func(b *api.RecipeBench) { b.Start.Hi[2], b.Weights = -1, nil }), 0, api.ErrRange},
		{changed(func(b *api.RecipeBench) { b.Start.Lo[1], b.Weights = 1, nil }), 0, api.ErrOrder},
		{weighted(), 0, api.ErrShape},
		{weighted(one(-1), one(-1)), 0, api.ErrShape},
		{weighted(zero, zero, zero, zero), 0, api.ErrShape},
		{weighted(zero, span(-1, 0), span(2, 1)), 1, api.ErrRange},
		{weighted(zero, span(2, 1), one(-1)), 1, api.ErrOrder},
		{weighted(zero, zero, span(1000, 999)), 2, api.ErrOrder},
		{weighted(span(0, 1001), zero, zero), 0, api.ErrRange},
		{weighted(zero, span(1001, 0), zero), 1, api.ErrRange},
		{weighted(zero, zero, span(0, -1)), 2, api.ErrRange},
		{weighted(span(math.MinInt, math.MaxInt), zero, zero), 0, api.ErrRange},
		{changed(func(b *api.RecipeBench) { b.Weights[2], b.Air, b.Spread = span(1, 0), 9, 9 }), 2, api.ErrOrder},
		{changed(func(b *api.RecipeBench) { b.Air, b.Spread = -1, 9 }), 0, api.ErrMissing},
		{changed(func(b *api.RecipeBench) { b.Air, b.Spread = 2, -1 }), 0, api.ErrMissing},
		{changed(func(b *api.RecipeBench) { b.Air = math.MinInt }), 0, api.ErrMissing},
		{changed(func(b *api.RecipeBench) { b.Air = math.MaxInt }), 0, api.ErrMissing},
		{changed(func(b *api.RecipeBench) { b.Setup.Laws = nil }), 0, api.ErrMissing},
		{changed(func(b *api.RecipeBench) { b.Spread = -1 }), 0, api.ErrRange},
		{changed(func(b *api.RecipeBench) { b.Spread = 5 }), 0, api.ErrRange},
		{changed(func(b *api.RecipeBench) { b.Spread = math.MinInt }), 0, api.ErrRange},
		{changed(func(b *api.RecipeBench) { b.Spread = math.MaxInt }), 0, api.ErrRange},
	}
	return l
}

// goodBenches are benches without an error.
func goodBenches() []api.RecipeBench {
	return []api.RecipeBench{
		example(), plain(0), plain(5, 6, 7),
		weighted(span(0, 1000), one(1000), one(0)),
		changed(func(b *api.RecipeBench) { b.Air, b.Spread = 1, 4 }),
		changed(func(b *api.RecipeBench) { b.Start.Hi = []int{3000, 0, 1} }),
	}
}

// badTicks are ticks with errors for the bench of the examples.
func badTicks() map[api.Errno][][]api.RecipeTick {
	good := times(api.MaxRecipeTicks, tick(0, 0))
	return map[api.Errno][][]api.RecipeTick{
		api.ErrLarge: {times(201, tick(0, 0)), append(slices.Clone(good), tick(-1, 5))},
		api.ErrRange: {
			{tick(-1, 0)}, {tick(10001, 2)}, {tick(0, 0), tick(math.MinInt, -1)}, {tick(0, 0), tick(math.MaxInt, 0), tick(0, 2)},
			append(slices.Clone(good[1:]), tick(-1, 0)),
		},
		api.ErrMissing: {
			{tick(0, -1)}, {tick(10000, 2)}, {tick(0, 1), tick(0, math.MinInt)}, {tick(0, 1), tick(0, math.MaxInt), tick(-1, 0)},
			append(slices.Clone(good[1:]), tick(0, 2)),
		},
	}
}

// wantTicksError asks all functions of ticks that have an error.
func wantTicksError(t *testing.T, b api.RecipeBench, ticks []api.RecipeTick, wanted api.Errno) {
	t.Helper()
	spans, e := recipe.SpansOf(b, ticks)
	want(t, "SpansOf", spans, e, []int{}, wanted)
	curves, e := recipe.CurvesOf(b, ticks)
	want(t, "CurvesOf", curves, e, []int{}, wanted)
	l, spoilt, e := recipe.StoppedAt(b, ticks, api.RecipeStop{After: -1, Kelvin: 199, Most: -1})
	want(t, "StoppedAt", l, e, []int{}, wanted)
	want(t, "spoilt", spoilt, e, false, wanted)
	o := exampleOrder()
	o.Bench = b
	bands, e := recipe.BandsOf(o, ticks)
	want(t, "BandsOf", bands, e, []int{}, wanted)
	n, e := recipe.CriticalOf(o, ticks)
	want(t, "CriticalOf", n, e, 0, wanted)
}

// P5.2; P5.3 and P5.4: the error of the bench comes first
func TestCheckBench(t *testing.T) {
	for _, x := range badBenches() {
		i, e := recipe.CheckBench(x.b)
		want(t, "CheckBench", i, e, x.index, x.e)
		if x.e == api.OK {
			continue
		}
		wantTicksError(t, x.b, times(201, tick(-1, -1)), x.e)
		l, e := recipe.Compiled(x.b, nil)
		want(t, "Compiled", l, e, []int{}, x.e)
	}
	for _, b := range goodBenches() {
		i, e := recipe.CheckBench(b)
		want(t, "CheckBench", i, e, 0, api.OK)
	}
}

// P5.3, P5.4: the error of ticks comes after that of the bench
func TestErrorsOfTicks(t *testing.T) {
	for e, l := range badTicks() {
		for _, ticks := range l {
			wantTicksError(t, example(), ticks, e)
		}
	}
	for _, ticks := range [][]api.RecipeTick{nil, times(200, tick(0, 1)), {tick(10000, 0)}} {
		spans, e := recipe.SpansOf(example(), ticks)
		want(t, "SpansOf", len(spans), e, len(ticks), api.OK)
	}
}

// P5.3
func TestSpansOf(t *testing.T) {
	b := weighted(span(333, 500), span(0, 1000), one(1))
	spans, e := recipe.SpansOf(b, []api.RecipeTick{tick(1999, 0), tick(0, 1)})
	want(t, "SpansOf", spans, e, []api.HeatSpan{
		{Powers: []api.Range{span(665, 999), span(0, 1999), one(1)}, Laws: one(0)},
		{Powers: ones(0, 0, 0), Laws: one(1)},
	}, api.OK)
	wide := plain(0)
	for spread, laws := range [][]api.Range{{one(0), one(1), one(2)}, {span(0, 1), span(0, 2), span(1, 2)}, {span(0, 2), span(0, 2), span(0, 2)}, {span(0, 2), span(0, 2), span(0, 2)}} {
		wide.Spread = spread
		for law, wanted := range laws {
			spans, e := recipe.SpansOf(wide, []api.RecipeTick{tick(0, law)})
			want(t, "SpansOf", spans, e, []api.HeatSpan{{Powers: ones(0), Laws: wanted}}, api.OK)
		}
	}
	orders(t, func(random *rand.Rand, o api.RecipeOrder) {
		ticks := someTicks(random, o.Bench)
		spans, e := recipe.SpansOf(o.Bench, ticks)
		want(t, "SpansOf", spans, e, exactSpans(o.Bench, ticks), api.OK)
	})
}

// P5.3, examples 1 and 5
func TestCurvesOfTheExample(t *testing.T) {
	curves, e := recipe.CurvesOf(example(), exampleTicks())
	want(t, "CurvesOf", []api.Range{curves[0][1], curves[1][1], curves[2][1]}, e, ones(675, 494, 331), api.OK)
	want(t, "CurvesOf", []api.Range{curves[0][3], curves[1][3], curves[2][3]}, e, []api.Range{one(496), span(475, 476), span(413, 414)}, api.OK)
	curves, e = recipe.CurvesOf(example(), []api.RecipeTick{tick(400, 0), tick(0, 1), tick(0, 1), tick(0, 1)})
	want(t, "CurvesOf", curves, e, [][]api.Range{
		{one(500), one(440), one(403), span(379, 380)},
		{one(400), one(394), one(387), one(381)},
		{one(300), one(331), span(349, 350), span(359, 360)},
	}, api.OK)
	curves, e = recipe.CurvesOf(example(), nil)
	want(t, "CurvesOf without ticks", curves, e, make([][]api.Range, 3), api.OK)
}

// P5.3
func TestCurvesOf(t *testing.T) {
	broken, wide := 0, 0
	orders(t, func(random *rand.Rand, o api.RecipeOrder) {
		ticks := someTicks(random, o.Bench)
		curves, e := recipe.CurvesOf(o.Bench, ticks)
		wanted, f := exactCurves(o.Bench, ticks)
		want(t, "CurvesOf", curves, e, wanted, f)
		if e == api.ErrBreak {
			broken++
		} else if slices.ContainsFunc(curves[0], func(r api.Range) bool { return r.Hi-r.Lo > 3 }) {
			wide++
		}
	})
	if broken < 50 || broken > 2500 || wide < 300 {
		t.Errorf("%d leave the table, %d are wide", broken, wide)
	}
}

// P5.3: only one end of a box leaves the table
func TestCurvesThatLeaveTheTable(t *testing.T) {
	b := plain(500)
	b.Start, b.Weights, b.Spread = box([]int{100}, []int{900}), []api.Range{span(500, 1000)}, 1
	for _, x := range []struct {
		t api.RecipeTick
		e api.Errno
	}{
		{tick(100, 0), api.OK}, {tick(101, 0), api.ErrBreak}, {tick(0, 0), api.OK}, {tick(0, 1), api.ErrBreak}, {tick(200, 1), api.ErrBreak}, {tick(100, 2), api.ErrBreak},
	} {
		curves, e := recipe.CurvesOf(b, []api.RecipeTick{x.t})
		want(t, "CurvesOf", len(curves) == 1, e, x.e == api.OK, x.e)
		if x.e != api.OK {
			o := api.RecipeOrder{Bench: b, Edge: 3000}
			bands, e := recipe.BandsOf(o, []api.RecipeTick{x.t})
			want(t, "BandsOf", bands, e, []int{}, x.e)
			n, e := recipe.CriticalOf(o, []api.RecipeTick{x.t})
			want(t, "CriticalOf", n, e, 0, x.e)
		}
	}
}

// P5.3: a weight of 0 heats a cell by its neighbours alone
func TestWeightOfZero(t *testing.T) {
	b := weighted(one(1000), one(0), one(0))
	curves, e := recipe.CurvesOf(b, []api.RecipeTick{tick(400, 0), tick(0, 0)})
	want(t, "CurvesOf", []api.Range{curves[1][0], curves[2][0]}, e, ones(300, 300), api.OK)
	want(t, "the cell warms", curves[1][1].Lo > 300, e, true, api.OK)
	b.Setup.Exchange = 0
	curves, e = recipe.CurvesOf(b, []api.RecipeTick{tick(400, 0), tick(0, 0)})
	want(t, "CurvesOf", curves[1], e, ones(300, 300), api.OK)
}

// R3: arguments are not modified, and results share no memory with them or with each other
func TestMemoryOfCurves(t *testing.T) {
	b, ticks := example(), exampleTicks()
	spans, _ := recipe.SpansOf(b, ticks)
	curves, _ := recipe.CurvesOf(b, ticks)
	for i := range spans[0].Powers {
		spans[0].Powers[i] = one(-1)
	}
	for i := range curves[0] {
		curves[0][i] = one(-1)
	}
	want(t, "the bench", b, api.OK, example(), api.OK)
	want(t, "the ticks", ticks, api.OK, exampleTicks(), api.OK)
	want(t, "the other span", spans[1].Powers, api.OK, ones(400, 200, 0), api.OK)
	want(t, "the other curve", curves[1][1], api.OK, one(494), api.OK)
}

// P5.7: temperatures
func TestTemperaturesAreEnclosed(t *testing.T) {
	parts := 0
	orders(t, func(random *rand.Rand, o api.RecipeOrder) {
		ticks := someTicks(random, o.Bench)
		curves, e := recipe.CurvesOf(o.Bench, ticks)
		if e != api.OK {
			return
		}
		for range 2 {
			for k, energies := range somePart(t, random, o.Bench, ticks) {
				for i, energy := range energies {
					r := curves[i][k]
					if compares(o.Bench, energy, r.Lo) < 0 || compares(o.Bench, energy, r.Hi) > 0 {
						t.Errorf("%d is not in %v", energy, r)
					}
				}
			}
			parts++
		}
	})
	if parts < 1000 {
		t.Errorf("only %d parts", parts)
	}
}

// somePart is the energies of a part in the bench after each tick, with some powers and laws of their spans.
func somePart(t *testing.T, random *rand.Rand, b api.RecipeBench, ticks []api.RecipeTick) [][]int {
	t.Helper()
	var energies []int
	for i := range b.Start.Lo {
		energies = append(energies, between(random, b.Start.Lo[i], b.Start.Hi[i]))
	}
	var drives []api.HeatDrive
	for _, s := range exactSpans(b, ticks) {
		d := api.HeatDrive{Law: between(random, s.Laws.Lo, s.Laws.Hi)}
		for _, r := range s.Powers {
			d.Powers = append(d.Powers, between(random, r.Lo, r.Hi))
		}
		drives = append(drives, d)
	}
	run, e := heat.RunOf(b.Setup, energies, drives)
	want(t, "RunOf", len(run), e, len(ticks), api.OK)
	return run
}
