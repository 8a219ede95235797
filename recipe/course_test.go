package recipe_test

import (
	"math"
	"math/rand"
	"slices"
	"testing"

	"martensite/api"
	"martensite/recipe"
)

// stop is a stop.
func stop(after, kelvin, most int) api.RecipeStop {
	return api.RecipeStop{After: after, Kelvin: kelvin, Most: most}
}

// P5.2, examples 1 and 2
func TestCompiledExamples(t *testing.T) {
	l, e := recipe.Compiled(example(), exampleRecipe())
	want(t, "Compiled", l, e, exampleTicks(), api.OK)
	l, e = recipe.Compiled(example(), phases(until(650, 400, 5), quench(1, 3)))
	want(t, "Compiled", l, e, exampleTicks(), api.OK)
	l, e = recipe.Compiled(example(), phases(until(650, 400, 2), quench(1, 3)))
	want(t, "Compiled", l, e, exampleTicks(), api.OK)
	l, e = recipe.Compiled(example(), phases(until(650, 400, 1), quench(1, 3)))
	want(t, "Compiled", l, e, []int{}, api.ErrRefused)
	l, e = recipe.Compiled(example(), phases(hot(400, 2), cool(500, 1, 2)))
	want(t, "Compiled", l, e, exampleTicks()[:4], api.OK)
	l, e = recipe.Compiled(example(), phases(hot(400, 2), cool(500, 1, 1)))
	want(t, "Compiled", l, e, []int{}, api.ErrRefused)
}

// P5.2: the ticks of each kind
func TestTicksOfKinds(t *testing.T) {
	b := plain(0)
	b.Air = 1
	for _, x := range []struct {
		l     []api.RecipePhase
		ticks []api.RecipeTick
	}{
		{phases(hot(150, 2), dwell(1), quench(0, 2)), []api.RecipeTick{tick(150, 1), tick(150, 1), tick(0, 1), tick(0, 0), tick(0, 0)}},
		{phases(until(400, 140, 9), quench(0, 1)), []api.RecipeTick{tick(140, 1), tick(140, 1), tick(140, 1), tick(0, 0)}},
		{phases(hot(1000, 1), cool(600, 2, 9)), []api.RecipeTick{tick(1000, 1), tick(0, 2), tick(0, 2), tick(0, 2)}},
		// A temperature that is reached needs no ticks.
		{phases(hot(400, 1), until(600, 150, 9), cool(600, 2, 9)), []api.RecipeTick{tick(400, 1)}},
		{phases(hot(400, 1), until(601, 150, 9), cool(600, 2, 9)), []api.RecipeTick{tick(400, 1), tick(150, 1), tick(0, 2)}},
		{phases(until(300, 1, 1), cool(300, 2, 1)), nil},
		// It heats again after a quench.
		{phases(repeat(2, hot(400, 1), quench(2, 1)), cool(3000, 0, 1)), []api.RecipeTick{tick(400, 1), tick(0, 2), tick(400, 1), tick(0, 2)}},
	} {
		ticks, e := recipe.Compiled(b, x.l)
		want(t, "Compiled", ticks, e, x.ticks, api.OK)
	}
}

// P5.2: the nominal part begins with Start.Lo, and its weights are rounded down; only the first cell matters, and its exact temperature
func TestNominalPart(t *testing.T) {
	b := plain(100, 900)
	b.Start.Hi = []int{500, 1000}
	b.Weights = []api.Range{span(1, 2), one(0)}
	end := tick(0, 0)
	ticks, e := recipe.Compiled(b, phases(until(403, 1999, 9), quench(0, 1)))
	want(t, "Compiled", ticks, e, append(times(3, tick(1999, 0)), end), api.OK)
	ticks, e = recipe.Compiled(b, phases(until(404, 2000, 9), quench(0, 1)))
	want(t, "Compiled", ticks, e, append(times(2, tick(2000, 0)), end), api.OK)
	b.Weights[0] = span(1, 3)
	ticks, e = recipe.Compiled(b, phases(until(404, 1000, 9), quench(0, 1)))
	want(t, "Compiled", ticks, e, append(times(2, tick(1000, 0)), end), api.OK)
	ticks, e = recipe.Compiled(b, phases(hot(1000, 1), cool(402, 0, 1)))
	want(t, "Compiled", ticks, e, times(1, tick(1000, 0)), api.OK)
	half := example()
	half.Start = box([]int{1, 0, 0}, []int{1, 0, 0})
	half.Setup.Exchange = 0
	ticks, e = recipe.Compiled(half, phases(until(301, 1, 9), quench(0, 1)))
	want(t, "300.5 kelvins", ticks, e, []api.RecipeTick{tick(1, 0), tick(0, 0)}, api.OK)
	ticks, e = recipe.Compiled(half, phases(until(300, 1, 9), quench(0, 1)))
	want(t, "300.5 kelvins", ticks, e, []api.RecipeTick{tick(0, 0)}, api.OK)
	ticks, e = recipe.Compiled(half, phases(cool(300, 0, 9)))
	want(t, "300.5 kelvins", ticks, e, []int{}, api.ErrRefused)
	ticks, e = recipe.Compiled(half, phases(cool(301, 0, 9)))
	want(t, "300.5 kelvins", ticks, e, []int{}, api.OK)
}

// P5.2: recipes with errors
func TestErrorsOfCompiled(t *testing.T) {
	b := plain(0)
	end := quench(0, 1)
	for _, x := range []struct {
		l []api.RecipePhase
		e api.Errno
	}{
		{phases(hot(1, 200)), api.ErrState},
		{phases(hot(1, 199), end), api.OK},
		{phases(hot(1, 200), end), api.ErrLarge},
		{phases(repeat(10, hot(1, 20)), end), api.ErrLarge},
		{phases(hot(1, 200), cool(500, 0, 1)), api.OK},
		{phases(hot(1, 200), cool(499, 0, 1)), api.ErrLarge},
		{phases(hot(1, 199), until(501, 1, 1), cool(500, 0, 1)), api.ErrRefused},
		{phases(hot(1, 199), until(501, 1, 2), cool(500, 0, 1)), api.ErrLarge},
		{phases(hot(1, 199), cool(498, 0, 1)), api.ErrRefused},
		{phases(hot(1, 199), cool(498, 0, 2)), api.ErrLarge},
		// A tick that is too many is not tried.
		{phases(hot(5, 200), hot(1, 1), end), api.ErrLarge},
		{phases(hot(5, 199), hot(6, 1), end), api.ErrBreak},
		{phases(until(1400, 500, 2), end), api.ErrRefused},
		{phases(until(1400, 500, 3), end), api.ErrBreak},
		{phases(hot(150, 1), cool(290, 1, 1)), api.ErrRefused},
		{phases(hot(150, 1), cool(290, 1, 2)), api.ErrBreak},
		// The first tick with an error counts.
		{phases(hot(100, 200), end), api.ErrBreak},
		{phases(hot(1, 200), hot(1, 1), until(1400, 1, 1), end), api.ErrLarge},
		{phases(until(600, 1, 1), hot(10000, 200), hot(1, 1), end), api.ErrRefused},
		{phases(quench(1, 1), cool(200, 0, 1)), api.ErrBreak},
		// A law that is not one of the set-up comes before all of these.
		{phases(quench(3, 1)), api.ErrMissing},
		{phases(hot(10000, 1), quench(3, 1), end), api.ErrMissing},
		{phases(hot(10000, 1), repeat(2, dwell(1), repeat(2, cool(300, 3, 1))), end), api.ErrMissing},
		{phases(until(600, 1, 1), cool(3000, 3, 200)), api.ErrMissing},
		{phases(hot(1000, 1), quench(2, 1)), api.OK},
	} {
		l, e := recipe.Compiled(b, x.l)
		if e != x.e || e != api.OK && len(l) > 0 {
			t.Errorf("Compiled %v: %v, %d, want %d", x.l, l, e, x.e)
		}
	}
	for _, x := range badRecipes() {
		l, e := recipe.Compiled(b, x.l)
		want(t, "Compiled", l, e, []int{}, x.e)
	}
}

// P5.2: recipes of many benches by the definition
func TestCompiled(t *testing.T) {
	found := map[api.Errno]int{}
	ticks, cooled := 0, 0
	orders(t, func(random *rand.Rand, o api.RecipeOrder) {
		recipes := someRecipe(random, len(o.Bench.Setup.Laws))
		l, e := recipe.Compiled(o.Bench, recipes)
		found[e]++
		if _, f := recipe.CheckRecipe(recipes); f != api.OK {
			want(t, "Compiled", l, e, []int{}, f)
			return
		}
		wanted, f := exactCompiled(o.Bench, recipes)
		want(t, "Compiled", l, e, wanted, f)
		ticks += len(l)
		if last := recipes[len(recipes)-1]; e == api.OK && last.Kind == api.RecipeCool && len(l) > 2 && l[len(l)-3] == tick(0, last.Law) {
			cooled++
		}
	})
	if found[api.OK] < 800 || found[api.ErrRefused] < 100 || found[api.ErrBreak] < 100 || found[api.ErrMissing] < 50 || ticks < 5000 || cooled < 50 {
		t.Errorf("found %v with %d ticks, %d cooled", found, ticks, cooled)
	}
}

// R3: arguments are not modified, and results share no memory with them
func TestMemoryOfCourses(t *testing.T) {
	b, l, ticks := example(), exampleRecipe(), exampleTicks()
	a, _ := recipe.Compiled(b, l)
	a[0] = tick(-1, -1)
	c, _, _ := recipe.StoppedAt(b, ticks, stop(2, 3000, 0))
	want(t, "StoppedAt", c, api.OK, exampleTicks()[:2], api.OK)
	c[0] = tick(-1, -1)
	_ = append(c, tick(-1, -1))
	want(t, "the bench", b, api.OK, example(), api.OK)
	want(t, "the recipe", l, api.OK, exampleRecipe(), api.OK)
	want(t, "the ticks", ticks, api.OK, exampleTicks(), api.OK)
}

// P5.4, example 5
func TestStoppedExample(t *testing.T) {
	l, spoilt, e := recipe.StoppedAt(example(), exampleTicks(), stop(1, 400, 9))
	want(t, "StoppedAt", l, e, []api.RecipeTick{tick(400, 0), tick(0, 1), tick(0, 1), tick(0, 1)}, api.OK)
	want(t, "spoilt", spoilt, e, true, api.OK)
	l, spoilt, e = recipe.StoppedAt(example(), exampleTicks(), stop(1, 400, 3))
	want(t, "StoppedAt", len(l), e, 4, api.OK)
	want(t, "spoilt", spoilt, e, true, api.OK)
	l, spoilt, e = recipe.StoppedAt(example(), exampleTicks(), stop(1, 400, 2))
	want(t, "StoppedAt", l, e, []int{}, api.ErrRefused)
	want(t, "spoilt", spoilt, e, false, api.ErrRefused)
}

// P5.4: errors of stops, and what is spoilt
func TestStops(t *testing.T) {
	b := plain(0, 300)
	ticks := []api.RecipeTick{tick(200, 0), tick(500, 0), tick(300, 0)}
	for _, x := range []struct {
		stop   api.RecipeStop
		added  int
		spoilt bool
		e      api.Errno
	}{
		{stop(0, 600, 0), 0, true, api.OK},
		{stop(0, 599, 0), 0, false, api.ErrRefused},
		{stop(1, 800, 0), 0, true, api.OK},
		// The inner cell keeps its heat, and the outer one leaves the table.
		{stop(1, 799, 1), 0, false, api.ErrRefused},
		{stop(1, 799, 2), 0, false, api.ErrBreak},
		{stop(1, 799, 1000), 0, false, api.ErrRange},
		{stop(2, 1300, 0), 0, true, api.OK},
		{stop(2, 1299, 3), 0, false, api.ErrRefused},
		{stop(2, 1299, 4), 0, false, api.ErrBreak},
		{stop(3, 3000, 200), 0, false, api.ErrBreak},
		{stop(-1, 600, 0), 0, false, api.ErrRange},
		{stop(4, 600, 0), 0, false, api.ErrRange},
		{stop(math.MaxInt, 600, 0), 0, false, api.ErrRange},
		{stop(math.MinInt, 600, 0), 0, false, api.ErrRange},
		{stop(0, 199, 0), 0, false, api.ErrRange},
		{stop(0, 3001, 0), 0, false, api.ErrRange},
		{stop(0, 600, -1), 0, false, api.ErrRange},
		{stop(3, 600, 201), 0, false, api.ErrRange},
		{stop(0, 3000, 200), 0, true, api.OK},
	} {
		l, spoilt, e := recipe.StoppedAt(b, ticks, x.stop)
		want(t, "spoilt", spoilt, e, x.spoilt, x.e)
		if e == api.OK {
			want(t, "StoppedAt", l, e, append(slices.Clone(ticks[:x.stop.After]), times(x.added, tick(0, 2))...), x.e)
		} else {
			want(t, "StoppedAt", l, e, []int{}, x.e)
		}
	}
	l, spoilt, e := recipe.StoppedAt(plain(0), nil, stop(0, 300, 0))
	want(t, "StoppedAt without ticks", l, e, []int{}, api.OK)
	want(t, "spoilt", spoilt, e, false, api.OK)
}

// P5.4: the law after a stop is the last one of the set-up, and there may be more ticks than a recipe has
func TestTicksAfterStops(t *testing.T) {
	b := plain(1000)
	ticks := times(9, tick(0, 1))
	l, spoilt, e := recipe.StoppedAt(b, ticks, stop(3, 400, 3))
	want(t, "StoppedAt", l, e, append(times(3, tick(0, 1)), times(3, tick(0, 2))...), api.OK)
	want(t, "spoilt", spoilt, e, true, api.OK)
	b.Setup.Laws = [][]api.HeatPoint{nil, {{Kelvin: 300, Loss: 1}}}
	l, spoilt, e = recipe.StoppedAt(b, times(200, tick(0, 0)), stop(200, 1101, 200))
	want(t, "StoppedAt", l, e, append(times(200, tick(0, 0)), times(199, tick(0, 1))...), api.OK)
	want(t, "spoilt", spoilt, e, false, api.OK)
	l, spoilt, e = recipe.StoppedAt(b, times(200, tick(0, 0)), stop(199, 1100, 200))
	want(t, "StoppedAt", l, e, append(times(199, tick(0, 0)), times(200, tick(0, 1))...), api.OK)
	want(t, "spoilt", spoilt, e, true, api.OK)
	l, _, e = recipe.StoppedAt(b, times(200, tick(0, 0)), stop(199, 1099, 200))
	want(t, "StoppedAt", l, e, []int{}, api.ErrRefused)
}

// P5.4, P5.8: stops by the definition, after each tick
func TestStoppedAt(t *testing.T) {
	found := map[api.Errno]int{}
	orders(t, func(random *rand.Rand, o api.RecipeOrder) {
		b := o.Bench
		ticks := someTicks(random, b)
		x := stop(random.Intn(len(ticks)+1), 320+random.Intn(300), random.Intn(60))
		l, spoilt, e := recipe.StoppedAt(b, ticks, x)
		found[e]++
		wanted, f := exactStopped(b, ticks, x)
		want(t, "StoppedAt", l, e, wanted, f)
		want(t, "spoilt", spoilt, e, f == api.OK && x.After < len(ticks), f)
		if e != api.OK {
			return
		}
		if len(l) > x.After {
			found[-1]++
		}
		energies := b.Start.Lo
		for i, y := range l {
			if i >= x.After && y.Power != 0 {
				t.Errorf("a tick with a power after the stop: %v", l)
			}
			energies, _ = exactNominal(b, energies, y)
		}
		if isHotter(b, energies, x.Kelvin) {
			t.Errorf("%v is not cooled", energies)
		}
		wantNoHotter(t, random, b, l, x.After)
	})
	if found[api.OK] < 500 || found[api.ErrRefused] < 100 || found[api.ErrBreak] < 30 || found[-1] < 300 {
		t.Errorf("found %v", found)
	}
}

// wantNoHotter follows a part: after a stop no cell becomes hotter than the hottest one was.
func wantNoHotter(t *testing.T, random *rand.Rand, b api.RecipeBench, l []api.RecipeTick, after int) {
	t.Helper()
	if len(l) > 200 {
		return
	}
	if _, e := recipe.CurvesOf(b, l); e != api.OK {
		return
	}
	run := somePart(t, random, b, l)
	hottest := slices.Max(b.Start.Hi)
	if after > 0 {
		hottest = slices.Max(run[after-1])
	}
	for _, energies := range run[after:] {
		if slices.Max(energies) > hottest {
			t.Errorf("%v is hotter than %d", energies, hottest)
		}
	}
}

// isHotter is whether some cell is hotter than a temperature.
func isHotter(b api.RecipeBench, energies []int, kelvin int) bool {
	return slices.ContainsFunc(energies, func(energy int) bool { return compares(b, energy, kelvin) > 0 })
}

// exactStopped are the ticks of a stopped recipe by the definition.
func exactStopped(b api.RecipeBench, ticks []api.RecipeTick, x api.RecipeStop) ([]api.RecipeTick, api.Errno) {
	var all []api.RecipeTick
	energies := b.Start.Lo
	for n := 0; ; n++ {
		t := tick(0, len(b.Setup.Laws)-1)
		if n < x.After {
			t = ticks[n]
		} else if !isHotter(b, energies, x.Kelvin) {
			return all, api.OK
		} else if n == x.After+x.Most {
			return nil, api.ErrRefused
		}
		after, e := exactNominal(b, energies, t)
		if e != api.OK {
			return nil, api.ErrBreak
		}
		all, energies = append(all, t), after
	}
}

// P5.8: after all ticks of a recipe that ends cold nothing is added
func TestStoppedAtTheEnd(t *testing.T) {
	ended := 0
	orders(t, func(random *rand.Rand, o api.RecipeOrder) {
		o.Bench.Setup.Exchange = 0
		kelvin := between(random, 400, 600)
		ticks, e := recipe.Compiled(o.Bench, phases(until(700, 300, 40), cool(kelvin, len(o.Bench.Setup.Laws)-1, 150)))
		if e != api.OK {
			return
		}
		energies := o.Bench.Start.Lo
		for _, x := range ticks {
			energies, _ = exactNominal(o.Bench, energies, x)
		}
		if isHotter(o.Bench, energies, kelvin) {
			return
		}
		ended++
		l, spoilt, e := recipe.StoppedAt(o.Bench, ticks, stop(len(ticks), kelvin, 0))
		want(t, "StoppedAt", l, e, ticks, api.OK)
		want(t, "spoilt", spoilt, e, false, api.OK)
	})
	if ended < 100 {
		t.Errorf("only %d end cold", ended)
	}
}
