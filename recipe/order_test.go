package recipe_test

import (
	"math"
	"math/rand"
	"slices"
	"testing"

	"martensite/api"
	"martensite/heat"
	"martensite/recipe"
	"martensite/steel"
)

// badOrder is an order with an error, and the index of the point that has it.
type badOrder struct {
	o     api.RecipeOrder
	index int
	e     api.Errno
}

// at is a point.
func at(cell, lo, hi int) api.RecipePoint { return api.RecipePoint{Cell: cell, Hard: span(lo, hi)} }

// pointed is the order of the examples with these points.
func pointed(l ...api.RecipePoint) api.RecipeOrder {
	return ordered(func(o *api.RecipeOrder) { o.Points = l })
}

// badOrders are orders with errors; where there are several, the one that is listed first.
func badOrders() []badOrder {
	wrong := at(9, -1, -2)
	l := []badOrder{
		{api.RecipeOrder{}, 0, api.ErrRange},
		{ordered(func(o *api.RecipeOrder) { o.Rules.Hard[0] = 251 }), 0, api.ErrOrder},
		{ordered(func(o *api.RecipeOrder) { o.Rules.Hard[3], o.Points = 2001, slices.Repeat([]api.RecipePoint{wrong}, 7) }), 0, api.ErrRange},
		{ordered(func(o *api.RecipeOrder) { o.Rules.Heats[0].Kelvin = 500 }), 0, api.ErrClash},
		{ordered(func(o *api.RecipeOrder) {
			o.Rules.Colds = append(o.Rules.Colds, api.SteelCold{Kelvin: 501, Share: span(1, 0)})
		}), 0, api.ErrForm},
		{ordered(func(o *api.RecipeOrder) { o.Points, o.Edge = slices.Repeat([]api.RecipePoint{wrong}, 7), 0 }), 0, api.ErrLarge},
		{pointed(slices.Repeat([]api.RecipePoint{at(0, 0, 0)}, 7)...), 0, api.ErrLarge},
		{pointed(at(0, 0, 0), wrong), 1, api.ErrMissing},
		{pointed(at(-1, 0, 0), wrong), 0, api.ErrMissing},
		{pointed(at(0, 0, 0), at(1, 0, 0), at(3, 2, 1)), 2, api.ErrMissing},
		{pointed(at(math.MinInt, 0, 0)), 0, api.ErrMissing},
		{pointed(at(math.MaxInt, 0, 0)), 0, api.ErrMissing},
		{pointed(at(2, -1, 0), wrong), 0, api.ErrRange},
		{pointed(at(2, 0, 0), at(2, 0, 2001)), 1, api.ErrRange},
		{pointed(at(2, 2001, 0)), 0, api.ErrRange},
		{pointed(at(2, 0, -1)), 0, api.ErrRange},
		{pointed(at(0, math.MinInt, math.MaxInt)), 0, api.ErrRange},
		{pointed(at(0, 5, 4), wrong), 0, api.ErrOrder},
		{pointed(at(0, 0, 0), at(1, 0, 0), at(2, 2000, 1999)), 2, api.ErrOrder},
		{ordered(func(o *api.RecipeOrder) { o.Points[1].Cell, o.Edge = 3, 0 }), 1, api.ErrMissing},
	}
	for _, edge := range []int{199, 3001, 0, -1, math.MinInt, math.MaxInt} {
		l = append(l, badOrder{ordered(func(o *api.RecipeOrder) { o.Edge = edge }), 0, api.ErrRange})
	}
	for _, x := range badBenches() {
		if x.e != api.OK {
			l = append(l, badOrder{ordered(func(o *api.RecipeOrder) { o.Bench, o.Rules.Hard[0], o.Edge = x.b, -1, 0 }), 0, x.e})
		}
	}
	return l
}

// P5.3; P5.5: the error of the order comes first
func TestCheckOrder(t *testing.T) {
	long, class := times(201, tick(-1, -1)), exampleClass()[:1]
	for _, x := range badOrders() {
		i, e := recipe.CheckOrder(x.o)
		want(t, "CheckOrder", i, e, x.index, x.e)
		bands, e := recipe.BandsOf(x.o, long)
		want(t, "BandsOf", bands, e, []int{}, x.e)
		n, e := recipe.CriticalOf(x.o, long)
		want(t, "CriticalOf", n, e, 0, x.e)
		n, e = recipe.BoundOf(x.o, 0)
		want(t, "BoundOf", n, e, 0, x.e)
		n, ticks, e := recipe.ShortestOf(x.o, class)
		want(t, "ShortestOf", []int{n, ticks}, e, []int{0, 0}, x.e)
	}
	for _, o := range []api.RecipeOrder{
		exampleOrder(),
		pointed(),
		pointed(at(0, 0, 2000), at(2, 2000, 2000), at(0, 0, 0), at(0, 5, 5), at(0, 0, 0), at(1, 0, 0)),
		ordered(func(o *api.RecipeOrder) { o.Edge = 200 }),
		ordered(func(o *api.RecipeOrder) { o.Edge = 3000 }),
		ordered(func(o *api.RecipeOrder) { o.Rules = api.SteelRules{} }),
	} {
		i, e := recipe.CheckOrder(o)
		want(t, "CheckOrder", i, e, 0, api.OK)
	}
}

// P5.3, examples 3 and 4
func TestBandsOfTheExample(t *testing.T) {
	o := exampleOrder()
	bands, e := recipe.BandsOf(o, exampleTicks())
	want(t, "BandsOf", bands, e, ones(800, 200, 200), api.OK)
	n, e := recipe.CriticalOf(o, exampleTicks())
	want(t, "CriticalOf", n, e, 0, api.ErrNone)
	o.Edge = 675
	n, e = recipe.CriticalOf(o, exampleTicks())
	want(t, "CriticalOf", n, e, 0, api.ErrNone)
	for _, edge := range []int{674, 670, 200} {
		o.Edge = edge
		n, e = recipe.CriticalOf(o, exampleTicks())
		want(t, "CriticalOf", n, e, 2, api.OK)
	}
	short := exampleTicks()[:3]
	bands, e = recipe.BandsOf(o, short)
	want(t, "BandsOf", bands, e, ones(250, 200, 200), api.OK)
	n, e = recipe.CriticalOf(o, short)
	want(t, "CriticalOf", n, e, 0, api.OK)
	bands, e = recipe.BandsOf(o, nil)
	want(t, "BandsOf without ticks", bands, e, ones(200, 200, 200), api.OK)
	n, e = recipe.CriticalOf(o, nil)
	want(t, "CriticalOf without ticks", n, e, 0, api.OK)
	n, e = recipe.CriticalOf(pointed(at(0, 200, 200)), nil)
	want(t, "CriticalOf without ticks", n, e, 0, api.ErrNone)
}

// P5.3: points at the ends of their ranges, in their order
func TestCriticalPoints(t *testing.T) {
	good, soft := at(0, 800, 800), at(2, 0, 199)
	for _, x := range []struct {
		points []api.RecipePoint
		index  int
		e      api.Errno
	}{
		{[]api.RecipePoint{good, at(1, 200, 200), at(2, 0, 200)}, 0, api.ErrNone},
		{[]api.RecipePoint{at(0, 801, 2000)}, 0, api.OK},
		{[]api.RecipePoint{good, at(0, 0, 799)}, 1, api.OK},
		{[]api.RecipePoint{good, at(1, 200, 2000), soft, at(0, 0, 0)}, 2, api.OK},
		{[]api.RecipePoint{at(2, 201, 800), soft}, 0, api.OK},
		{nil, 0, api.ErrNone},
	} {
		n, e := recipe.CriticalOf(pointed(x.points...), exampleTicks())
		want(t, "CriticalOf", n, e, x.index, x.e)
	}
	// The edge is exceeded, too: points come first. Without points only the edge matters.
	hot := ordered(func(o *api.RecipeOrder) { o.Points, o.Edge = []api.RecipePoint{good, soft}, 300 })
	n, e := recipe.CriticalOf(hot, exampleTicks())
	want(t, "CriticalOf", n, e, 1, api.OK)
	hot.Points = nil
	n, e = recipe.CriticalOf(hot, exampleTicks())
	want(t, "CriticalOf without points", n, e, 0, api.OK)
}

// P5.3: the edge holds for every cell after each tick, with the upper end rounded up
func TestEdge(t *testing.T) {
	o := api.RecipeOrder{Bench: plain(0, 100), Edge: 400}
	for _, x := range []struct {
		power, edge int
		e           api.Errno
	}{
		{0, 400, api.ErrNone}, {0, 399, api.OK}, {50, 450, api.ErrNone}, {50, 449, api.OK},
	} {
		o.Edge = x.edge
		n, e := recipe.CriticalOf(o, []api.RecipeTick{tick(0, 0), tick(x.power, 0), tick(0, 0)})
		want(t, "CriticalOf", n, e, 0, x.e)
	}
	// The state before all ticks does not count.
	o.Edge = 300
	n, e := recipe.CriticalOf(o, nil)
	want(t, "CriticalOf without ticks", n, e, 0, api.ErrNone)
	half := ordered(func(o *api.RecipeOrder) {
		o.Points, o.Bench.Start, o.Bench.Setup.Exchange = nil, box([]int{1, 0, 0}, []int{1, 0, 0}), 0
	})
	for edge, wanted := range map[int]api.Errno{300: api.OK, 301: api.ErrNone} {
		half.Edge = edge
		n, e := recipe.CriticalOf(half, []api.RecipeTick{tick(0, 0)})
		want(t, "300.5 kelvins", n, e, 0, wanted)
	}
}

// P5.3: a range of a curve that is too wide
func TestWideCurves(t *testing.T) {
	o := api.RecipeOrder{Bench: plain(0, 100), Rules: exampleOrder().Rules, Edge: 3000}
	for _, x := range []struct {
		hi, bands       int
		ofBands, ofEdge api.Errno
	}{
		{150, 2, api.OK, api.ErrNone},
		{151, 0, api.ErrLarge, api.ErrLarge},
		{1000, 0, api.ErrLarge, api.ErrLarge},
	} {
		o.Bench.Start.Hi = []int{0, x.hi}
		ticks := []api.RecipeTick{tick(0, 0)}
		bands, e := recipe.BandsOf(o, ticks)
		want(t, "BandsOf", len(bands), e, x.bands, x.ofBands)
		n, e := recipe.CriticalOf(o, ticks)
		want(t, "CriticalOf", n, e, 0, x.ofEdge)
		// The box before all ticks does not count, and a step that leaves the table comes before a range that is too wide.
		bands, e = recipe.BandsOf(o, nil)
		want(t, "BandsOf without ticks", len(bands), e, 2, api.OK)
		bands, e = recipe.BandsOf(o, append(ticks, tick(0, 2)))
		want(t, "BandsOf", bands, e, []int{}, api.ErrBreak)
	}
}

// boolInt is 1 if something is so, otherwise 0.
func boolInt(is bool) int {
	if is {
		return 1
	}
	return 0
}

// P5.3, P5.10: bands and critical points by the definition
func TestBandsOf(t *testing.T) {
	found := map[api.Errno]int{}
	hard, edges := 0, 0
	orders(t, func(random *rand.Rand, o api.RecipeOrder) {
		ticks := someTicks(random, o.Bench)
		bands, e := recipe.BandsOf(o, ticks)
		wanted, f := exactBands(o, ticks)
		want(t, "BandsOf", bands, e, wanted, f)
		n, g := recipe.CriticalOf(o, ticks)
		index, h := exactCritical(o, ticks)
		want(t, "CriticalOf", n, g, index, h)
		found[e]++
		found[100+g]++
		for i := range bands {
			if bands[i].Lo > o.Rules.Hard[0] {
				hard++
				break
			}
		}
		if g == api.OK && n == len(o.Points) {
			edges++
		}
	})
	if found[api.OK] < 1000 || found[api.ErrLarge] < 50 || found[api.ErrBreak] < 50 || found[100+api.ErrNone] < 300 || found[100+api.OK] < 300 || hard < 50 || edges < 30 {
		t.Errorf("found %v, %d hard, %d edges", found, hard, edges)
	}
}

// P5.10: wider ranges and a higher edge
func TestWiderOrders(t *testing.T) {
	kept := 0
	orders(t, func(random *rand.Rand, o api.RecipeOrder) {
		ticks := someTicks(random, o.Bench)
		if _, e := recipe.CriticalOf(o, ticks); e != api.ErrNone {
			return
		}
		kept++
		wider := o
		wider.Points = slices.Clone(o.Points)
		for i, p := range o.Points {
			wider.Points[i].Hard = span(between(random, 0, p.Hard.Lo), between(random, p.Hard.Hi, 2000))
		}
		wider.Edge = between(random, o.Edge, 3000)
		n, e := recipe.CriticalOf(wider, ticks)
		want(t, "CriticalOf", n, e, 0, api.ErrNone)
	})
	if kept < 300 {
		t.Errorf("only %d are kept", kept)
	}
}

// P5.7: the hardness of every part and steel lies in its band
func TestHardnessIsEnclosed(t *testing.T) {
	parts, wide := 0, 0
	orders(t, func(random *rand.Rand, o api.RecipeOrder) {
		ticks := someTicks(random, o.Bench)
		bands, e := recipe.BandsOf(o, ticks)
		if e != api.OK {
			return
		}
		run := somePart(t, random, o.Bench, ticks)
		pick := api.SteelPick{Heat: between(random, 0, 1000), Cool: between(random, 0, 1000), Cold: between(random, 0, 1000)}
		for i, band := range bands {
			var curve []int
			for _, energies := range run {
				k, _ := heat.KelvinAt(o.Bench.Setup, energies[i])
				curve = append(curve, (k.Num+k.Den/2)/k.Den)
			}
			s, e := steel.RunOf(o.Rules, api.SteelState{Parent: whole}, api.SteelRun{Curve: curve, Pick: pick})
			n, f := steel.HardnessOf(o.Rules, s)
			if e != api.OK || f != api.OK || n < band.Lo || n > band.Hi {
				t.Errorf("%d, %d, %d is not in %v", n, e, f, band)
			}
			parts++
			wide += boolInt(band.Lo < band.Hi)
		}
	})
	if parts < 2000 || wide < 100 {
		t.Errorf("only %d parts, %d wide", parts, wide)
	}
}

// P5.12
func TestWiderBenches(t *testing.T) {
	wider := 0
	orders(t, func(random *rand.Rand, o api.RecipeOrder) {
		ticks := someTicks(random, o.Bench)
		bands, e := recipe.BandsOf(o, ticks)
		if e != api.OK {
			return
		}
		o.Bench.Weights = slices.Clone(o.Bench.Weights)
		for i, w := range o.Bench.Weights {
			o.Bench.Weights[i] = span(max(0, w.Lo-random.Intn(30)), min(1000, w.Hi+random.Intn(30)))
		}
		o.Bench.Spread += random.Intn(2)
		wide, e := recipe.BandsOf(o, ticks)
		if e != api.OK {
			return
		}
		for i := range bands {
			if wide[i].Lo > bands[i].Lo || wide[i].Hi < bands[i].Hi {
				t.Errorf("%v is narrower than %v", wide[i], bands[i])
			}
			wider += boolInt(wide[i] != bands[i])
		}
	})
	if wider < 100 {
		t.Errorf("only %d are wider", wider)
	}
}

// R3: arguments are not modified
func TestMemoryOfOrders(t *testing.T) {
	o, ticks := exampleOrder(), exampleTicks()
	bands, _ := recipe.BandsOf(o, ticks)
	bands[0] = one(-1)
	_, _ = recipe.CriticalOf(o, ticks)
	_, _ = recipe.BoundOf(o, 400)
	want(t, "the order", o, api.OK, exampleOrder(), api.OK)
	want(t, "the ticks", ticks, api.OK, exampleTicks(), api.OK)
}

// P5.5, example 6
func TestBoundOfTheExample(t *testing.T) {
	o := exampleOrder()
	n, e := recipe.BoundOf(o, 400)
	want(t, "BoundOf", n, e, 2, api.OK)
	for _, power := range []int{0, -1, 10001, math.MinInt, math.MaxInt} {
		n, e := recipe.BoundOf(o, power)
		want(t, "BoundOf", n, e, 0, api.ErrRange)
	}
	n, e = recipe.BoundOf(o, 10000)
	want(t, "BoundOf that leaves the table", n, e, 0, api.OK)
}

// P5.5: the bound begins with Start.Hi, takes the upper weights and the law 0, and each point that must be harder than parent steel
func TestBounds(t *testing.T) {
	o := api.RecipeOrder{Bench: plain(0, 0), Rules: exampleOrder().Rules, Edge: 3000}
	o.Bench.Start.Hi = []int{50, 0}
	o.Bench.Weights = []api.Range{span(0, 1000), span(100, 500)}
	o.Bench.Air, o.Bench.Spread = 2, 1
	for _, x := range []struct {
		points []api.RecipePoint
		power  int
		bound  int
		e      api.Errno
	}{
		{[]api.RecipePoint{at(0, 201, 800)}, 100, 3, api.OK},
		{[]api.RecipePoint{at(0, 201, 800)}, 75, 4, api.OK},
		{[]api.RecipePoint{at(0, 201, 800)}, 74, 5, api.OK},
		{[]api.RecipePoint{at(1, 201, 800)}, 100, 7, api.OK},
		{[]api.RecipePoint{at(0, 700, 800), at(1, 200, 800)}, 100, 3, api.OK},
		{[]api.RecipePoint{at(1, 201, 201), at(0, 0, 800)}, 100, 7, api.OK},
		{[]api.RecipePoint{at(0, 201, 800), at(1, 201, 800)}, 100, 7, api.OK},
		{[]api.RecipePoint{at(1, 201, 800), at(0, 201, 800)}, 100, 7, api.OK},
		{[]api.RecipePoint{at(0, 200, 800), at(1, 0, 0)}, 100, 0, api.OK},
		{nil, 1, 0, api.OK},
		// The next step leaves the table.
		{[]api.RecipePoint{at(0, 201, 800)}, 1000, 0, api.OK},
		{[]api.RecipePoint{at(1, 201, 800)}, 500, 1, api.OK},
		{[]api.RecipePoint{at(1, 201, 800)}, 480, 1, api.OK},
		{[]api.RecipePoint{at(1, 201, 800)}, 475, 2, api.OK},
		// No more ticks than a recipe may have.
		{[]api.RecipePoint{at(0, 201, 800)}, 2, 150, api.OK},
		{[]api.RecipePoint{at(1, 201, 800)}, 2, 0, api.ErrNone},
		{[]api.RecipePoint{at(0, 201, 800), at(1, 201, 800)}, 2, 0, api.ErrNone},
		{[]api.RecipePoint{at(1, 201, 800), at(0, 201, 800)}, 2, 0, api.ErrNone},
	} {
		o.Points = x.points
		n, e := recipe.BoundOf(o, x.power)
		want(t, "BoundOf", n, e, x.bound, x.e)
	}
	o.Rules.Heats = nil
	for lo, wanted := range map[int]api.Errno{200: api.OK, 201: api.ErrNone} {
		o.Points = []api.RecipePoint{at(0, lo, 800)}
		n, e := recipe.BoundOf(o, 100)
		want(t, "BoundOf without Heats", n, e, 0, wanted)
	}
}

// P5.5: the temperature of the first knot of Heats, after the greatest number of steps, and before any
func TestEndsOfBounds(t *testing.T) {
	o := api.RecipeOrder{Bench: plain(100), Rules: exampleOrder().Rules, Points: []api.RecipePoint{at(0, 700, 800)}, Edge: 3000}
	for kelvin, wanted := range map[int]int{600: 200, 599: 199, 400: 0, 399: 0, 401: 1, 500: 100} {
		o.Rules = api.SteelRules{Heats: []api.SteelHeat{{Kelvin: kelvin}, {Kelvin: 2000}}, Hard: [4]int{200, 200, 200, 800}}
		n, e := recipe.BoundOf(o, 1)
		want(t, "BoundOf", n, e, wanted, api.OK)
	}
	o.Rules.Heats[0].Kelvin = 601
	n, e := recipe.BoundOf(o, 1)
	want(t, "BoundOf", n, e, 0, api.ErrNone)
	// A step after the greatest number of them leaves the table.
	o.Bench.Start.Hi[0] = 800
	o.Rules.Heats[0].Kelvin = 1301
	n, e = recipe.BoundOf(o, 1)
	want(t, "BoundOf", n, e, 200, api.OK)
}

// P5.5: bounds by the definition
func TestBoundOf(t *testing.T) {
	found := map[api.Errno]int{}
	orders(t, func(random *rand.Rand, o api.RecipeOrder) {
		power := between(random, 1, 300)
		n, e := recipe.BoundOf(o, power)
		wanted, f := exactBound(o, power)
		want(t, "BoundOf", n, e, wanted, f)
		found[e]++
		if n > 0 {
			found[-1]++
		}
	})
	if found[api.OK] < 1000 || found[api.ErrNone] < 100 || found[-1] < 300 {
		t.Errorf("found %v", found)
	}
}
