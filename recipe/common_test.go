package recipe_test

import (
	"fmt"
	"math/rand"
	"slices"
	"testing"

	"martensite/api"
	"martensite/heat"
	"martensite/recipe"
	"martensite/steel"
)

// whole is the sum of all shares.
const whole = api.SteelWhole

// same compares two values as they are printed, so that nil and empty slices are equal.
func same(a, b any) bool { return fmt.Sprintf("%+v", a) == fmt.Sprintf("%+v", b) }

// want compares a result and an error with those that are expected.
func want(t *testing.T, what string, got any, e api.Errno, value any, f api.Errno) {
	t.Helper()
	if !same(got, value) || e != f {
		t.Errorf("%s: %+v, %d, want %+v, %d", what, got, e, value, f)
	}
}

// span is a range, one is a range of one number.
func span(lo, hi int) api.Range { return api.Range{Lo: lo, Hi: hi} }
func one(n int) api.Range       { return span(n, n) }

// ones are ranges of one number each.
func ones(numbers ...int) []api.Range {
	var l []api.Range
	for _, n := range numbers {
		l = append(l, one(n))
	}
	return l
}

// box is a box of lower and upper energies.
func box(lo, hi []int) api.HeatBox { return api.HeatBox{Lo: lo, Hi: hi} }

// tick is a tick.
func tick(power, law int) api.RecipeTick { return api.RecipeTick{Power: power, Law: law} }

// times is a tick, so many times.
func times(n int, t api.RecipeTick) []api.RecipeTick { return slices.Repeat([]api.RecipeTick{t}, n) }

// hot, dwell, quench, until, cool and repeat are phases.
func hot(power, ticks int) api.RecipePhase {
	return api.RecipePhase{Kind: api.RecipeHeat, Power: power, Ticks: ticks}
}
func dwell(ticks int) api.RecipePhase {
	return api.RecipePhase{Kind: api.RecipeDwell, Ticks: ticks}
}
func quench(law, ticks int) api.RecipePhase {
	return api.RecipePhase{Kind: api.RecipeQuench, Law: law, Ticks: ticks}
}
func until(kelvin, power, ticks int) api.RecipePhase {
	return api.RecipePhase{Kind: api.RecipeUntil, Kelvin: kelvin, Power: power, Ticks: ticks}
}
func cool(kelvin, law, ticks int) api.RecipePhase {
	return api.RecipePhase{Kind: api.RecipeCool, Kelvin: kelvin, Law: law, Ticks: ticks}
}
func repeat(count int, body ...api.RecipePhase) api.RecipePhase {
	return api.RecipePhase{Kind: api.RecipeRepeat, Ticks: count, Body: body}
}

// phases is a list of phases.
func phases(l ...api.RecipePhase) []api.RecipePhase { return l }

// example is the bench of the document's examples.
func example() api.RecipeBench {
	return api.RecipeBench{
		Setup: api.HeatSetup{
			Cells: 3, Exchange: 500,
			Table: []api.HeatKnot{{Energy: 0, Kelvin: 300}, {Energy: 1000, Kelvin: 800}, {Energy: 3000, Kelvin: 1300}},
			Laws:  [][]api.HeatPoint{{{Kelvin: 300}}, {{Kelvin: 300}, {Kelvin: 1300, Loss: 400}}},
		},
		Start:   box([]int{0, 0, 0}, []int{0, 0, 0}),
		Weights: ones(1000, 500, 0),
	}
}

// exampleOrder, exampleRecipe, exampleTicks and exampleClass are those of the document's examples.
func exampleOrder() api.RecipeOrder {
	return api.RecipeOrder{
		Bench: example(),
		Rules: api.SteelRules{
			Heats: []api.SteelHeat{{Kelvin: 650, Rate: one(whole), Growth: 1}},
			Colds: []api.SteelCold{{Kelvin: 500, Share: one(whole)}},
			Hard:  [4]int{200, 250, 400, 800},
		},
		Points: []api.RecipePoint{{Cell: 0, Hard: span(700, 850)}, {Cell: 2, Hard: span(150, 250)}},
		Edge:   700,
	}
}
func exampleRecipe() []api.RecipePhase { return phases(hot(400, 2), quench(1, 3)) }
func exampleTicks() []api.RecipeTick {
	return []api.RecipeTick{tick(400, 0), tick(400, 0), tick(0, 1), tick(0, 1), tick(0, 1)}
}
func exampleClass() []api.RecipeChoice {
	return []api.RecipeChoice{{Phase: hot(400, 0), Ticks: []int{1, 2, 3}}, {Phase: quench(1, 0), Ticks: []int{1, 2, 3}}}
}

// changed is the bench of the examples with a change.
func changed(change func(*api.RecipeBench)) api.RecipeBench {
	b := example()
	change(&b)
	return b
}

// ordered is the order of the examples with a change.
func ordered(change func(*api.RecipeOrder)) api.RecipeOrder {
	o := exampleOrder()
	change(&o)
	return o
}

// plain is a bench of cells that exchange nothing, of which each kelvin above 300 is a joule up to 1000; the law 0 loses nothing, the law 1 100 joules, the law 2 200. All power goes into each cell.
func plain(energies ...int) api.RecipeBench {
	lose := func(n int) []api.HeatPoint { return []api.HeatPoint{{Kelvin: 300, Loss: n}} }
	b := api.RecipeBench{
		Setup: api.HeatSetup{
			Cells: len(energies),
			Table: []api.HeatKnot{{Energy: 0, Kelvin: 300}, {Energy: 1000, Kelvin: 1300}},
			Laws:  [][]api.HeatPoint{nil, lose(100), lose(200)},
		},
		Start: box(energies, slices.Clone(energies)),
	}
	for range energies {
		b.Weights = append(b.Weights, one(1000))
	}
	return b
}

// between is a random number from lo to hi, often one of these.
func between(random *rand.Rand, lo, hi int) int {
	switch random.Intn(8) {
	case 0:
		return lo
	case 1:
		return hi
	}
	return lo + random.Intn(hi-lo+1)
}

// someRange is a range from lo to hi.
func someRange(random *rand.Rand, lo, hi int) api.Range {
	a, b := between(random, lo, hi), between(random, lo, hi)
	return span(min(a, b), max(a, b))
}

// someSetup is a valid set-up.
func someSetup(random *rand.Rand) api.HeatSetup {
	s := api.HeatSetup{Cells: 1 + random.Intn(4), Exchange: between(random, 0, api.MaxHeatExchange)}
	k := api.HeatKnot{Energy: random.Intn(3) * random.Intn(50), Kelvin: between(random, 280, 320)}
	s.Table = append(s.Table, k)
	for range 1 + random.Intn(3) {
		k.Energy += 600 + random.Intn(900)
		k.Kelvin += 400 + random.Intn(200)
		s.Table = append(s.Table, k)
	}
	least, more := random.Intn(6)/5, random.Intn(60)
	for range 1 + random.Intn(api.MaxHeatLaws) {
		s.Laws = append(s.Laws, []api.HeatPoint{{Kelvin: 330, Loss: least}, {Kelvin: 1330, Loss: least + more}})
		more += random.Intn(120)
	}
	return s
}

// someBench is a valid bench.
func someBench(random *rand.Rand) api.RecipeBench {
	b := api.RecipeBench{Setup: someSetup(random)}
	first := b.Setup.Table[0].Energy
	width, spread := []int{0, 10, 40}[random.Intn(3)], []int{0, 5, 30}[random.Intn(3)]
	for range b.Setup.Cells {
		lo, weight := first+random.Intn(200), 960-random.Intn(30+930/3*min(3, len(b.Weights)))
		b.Start.Lo, b.Start.Hi = append(b.Start.Lo, lo), append(b.Start.Hi, lo+random.Intn(width+1))
		b.Weights = append(b.Weights, span(weight, weight+random.Intn(spread+1)))
	}
	b.Air = random.Intn(len(b.Setup.Laws))
	b.Spread = random.Intn(6) / 4
	return b
}

// someRules are valid rules.
func someRules(random *rand.Rand) api.SteelRules {
	var r api.SteelRules
	kelvin := 500 + random.Intn(200)
	least := someRange(random, 0, whole)
	for i := range random.Intn(8) / 3 {
		r.Heats = append(r.Heats, api.SteelHeat{Kelvin: kelvin + 50*i, Rate: span(least.Lo, max(least.Hi, i*whole)), Growth: random.Intn(9)})
	}
	for i := range random.Intn(3) {
		r.Cools = append(r.Cools, api.SteelCool{Kelvin: kelvin - 60 + 20*i, Wait: someRange(random, 0, whole), Rate: someRange(random, 0, whole/5)})
	}
	for i := range random.Intn(3) {
		r.Colds = append(r.Colds, api.SteelCold{Kelvin: kelvin - 90 + 30*i, Share: someRange(random, 900000-900000*i, whole-100000*i)})
	}
	if random.Intn(2) == 0 {
		r.Tempers = append(r.Tempers, api.SteelTemper{Kelvin: 350 + random.Intn(100), Rate: random.Intn(40)})
	}
	hard := []int{random.Intn(300), random.Intn(400), random.Intn(600), 300 + random.Intn(600)}
	slices.Sort(hard)
	copy(r.Hard[:], hard)
	return r
}

// someHard is a range of the hardness, often a wide one.
func someHard(random *rand.Rand) api.Range {
	if random.Intn(2) == 0 {
		return span(between(random, 0, 400), api.MaxSteelHardness)
	}
	return someRange(random, 0, 900)
}

// someOrder is a valid order.
func someOrder(random *rand.Rand) api.RecipeOrder {
	o := api.RecipeOrder{Bench: someBench(random), Rules: someRules(random), Edge: 500 + random.Intn(700)}
	for range random.Intn(4) {
		o.Points = append(o.Points, api.RecipePoint{Cell: random.Intn(o.Bench.Setup.Cells), Hard: someHard(random)})
	}
	return o
}

// somePhase is a valid phase that stands in so many repeats; most laws are less than a number.
func somePhase(random *rand.Rand, depth, laws int) api.RecipePhase {
	power, kelvin, ticks := between(random, 1, 400), between(random, 250, 900), 1+random.Intn(5)
	law := min(between(random, 0, laws), random.Intn(laws+3), api.MaxHeatLaws-1)
	switch kind := random.Intn(7); {
	case kind == 0 || kind == 6:
		return hot(power, ticks)
	case kind == 1:
		return dwell(ticks)
	case kind == 2:
		return quench(law, ticks)
	case kind == 3:
		return until(kelvin, power, 5*ticks)
	case kind == 4 || depth == api.MaxRecipeDepth:
		return cool(kelvin, law, 10*ticks)
	}
	p := repeat(1 + random.Intn(3))
	for range 1 + random.Intn(3) {
		p.Body = append(p.Body, somePhase(random, depth+1, laws))
	}
	return p
}

// someRecipe is a recipe, which may have too many phases when it is flattened.
func someRecipe(random *rand.Rand, laws int) []api.RecipePhase {
	var l []api.RecipePhase
	for range random.Intn(4) {
		l = append(l, somePhase(random, 0, laws))
	}
	if random.Intn(2) == 0 {
		return append(l, quench(random.Intn(laws), 1+random.Intn(6)))
	}
	return append(l, cool(between(random, 350, 700), random.Intn(laws), 40))
}

// someTicks are valid ticks for a bench.
func someTicks(random *rand.Rand, b api.RecipeBench) []api.RecipeTick {
	laws := len(b.Setup.Laws)
	l := times(random.Intn(8), tick(random.Intn(300), b.Air))
	for range random.Intn(3) {
		l = append(l, times(1+random.Intn(4), tick(random.Intn(400)*random.Intn(2), random.Intn(laws)))...)
	}
	return append(l, times(random.Intn(8), tick(0, laws-1))...)
}

// someClass is a valid class.
func someClass(random *rand.Rand, laws int) []api.RecipeChoice {
	var l []api.RecipeChoice
	numbers := func() []int {
		all := random.Perm(8)[:1+random.Intn(4)]
		slices.Sort(all)
		for i := range all {
			all[i]++
		}
		return all
	}
	for range random.Intn(3) {
		p := somePhase(random, api.MaxRecipeDepth, laws)
		p.Ticks = 0
		l = append(l, api.RecipeChoice{Phase: p, Ticks: numbers()})
	}
	last := quench(random.Intn(laws), 0)
	if random.Intn(3) == 0 {
		last = cool(between(random, 350, 700), random.Intn(laws), 0)
		return append(l, api.RecipeChoice{Phase: last, Ticks: []int{5, 10, 30}})
	}
	for len(l) > 2 {
		l = l[1:]
	}
	return append(l, api.RecipeChoice{Phase: last, Ticks: numbers()[:1]})
}

// orders does something with many valid orders.
func orders(t *testing.T, do func(random *rand.Rand, o api.RecipeOrder)) {
	t.Helper()
	random := rand.New(rand.NewSource(5))
	for range 3000 {
		o := someOrder(random)
		if i, e := recipe.CheckOrder(o); i != 0 || e != api.OK {
			t.Fatalf("CheckOrder %+v: %d, %d", o, i, e)
		}
		do(random, o)
	}
}

// exactFlat is a flattened list by the definition.
func exactFlat(l []api.RecipePhase) []api.RecipePhase {
	for i, p := range l {
		if p.Kind != api.RecipeRepeat {
			continue
		}
		all := slices.Clone(l[:i])
		for n := 0; n < p.Ticks; n++ {
			all = append(all, p.Body...)
		}
		return exactFlat(append(all, l[i+1:]...))
	}
	return l
}

// compares is -1, 0 or 1 if the temperature of an energy is less than another one, the same, or greater.
func compares(b api.RecipeBench, energy, kelvin int) int {
	k, e := heat.KelvinAt(b.Setup, energy)
	if e != api.OK {
		panic(e)
	}
	switch {
	case k.Num < kelvin*k.Den:
		return -1
	case k.Num > kelvin*k.Den:
		return 1
	}
	return 0
}

// exactNominal is the nominal part of a bench after a tick.
func exactNominal(b api.RecipeBench, energies []int, t api.RecipeTick) ([]int, api.Errno) {
	d := api.HeatDrive{Law: t.Law}
	for _, w := range b.Weights {
		d.Powers = append(d.Powers, t.Power*((w.Lo+w.Hi)/2)/1000)
	}
	return heat.Stepped(b.Setup, energies, d)
}

// exactCompiled are the ticks of a valid recipe by the definition.
func exactCompiled(b api.RecipeBench, l []api.RecipePhase) ([]api.RecipeTick, api.Errno) {
	l = exactFlat(l)
	for _, p := range l {
		if p.Law >= len(b.Setup.Laws) {
			return nil, api.ErrMissing
		}
	}
	var all []api.RecipeTick
	energies := b.Start.Lo
	for _, p := range l {
		t, open := tick(p.Power, b.Air), false
		switch p.Kind {
		case api.RecipeQuench:
			t = tick(0, p.Law)
		case api.RecipeUntil:
			open = true
		case api.RecipeCool:
			t, open = tick(0, p.Law), true
		}
		for n := 0; ; n++ {
			if p.Kind == api.RecipeUntil && compares(b, energies[0], p.Kelvin) >= 0 || p.Kind == api.RecipeCool && compares(b, energies[0], p.Kelvin) <= 0 || !open && n == p.Ticks {
				break
			}
			if n == p.Ticks {
				return nil, api.ErrRefused
			}
			if len(all) == 200 {
				return nil, api.ErrLarge
			}
			after, e := exactNominal(b, energies, t)
			if e != api.OK {
				return nil, api.ErrBreak
			}
			all, energies = append(all, t), after
		}
	}
	return all, api.OK
}

// exactSpan is the span of a tick by the definition.
func exactSpan(b api.RecipeBench, t api.RecipeTick) api.HeatSpan {
	var s api.HeatSpan
	for _, w := range b.Weights {
		s.Powers = append(s.Powers, span(t.Power*w.Lo/1000, t.Power*w.Hi/1000))
	}
	s.Laws = span(t.Law-b.Spread, t.Law+b.Spread)
	if s.Laws.Lo < 0 {
		s.Laws.Lo = 0
	}
	if last := len(b.Setup.Laws) - 1; s.Laws.Hi > last {
		s.Laws.Hi = last
	}
	return s
}

// exactSpans are the spans of ticks.
func exactSpans(b api.RecipeBench, ticks []api.RecipeTick) []api.HeatSpan {
	var l []api.HeatSpan
	for _, t := range ticks {
		l = append(l, exactSpan(b, t))
	}
	return l
}

// exactCurves are the curves of all cells by the definition.
func exactCurves(b api.RecipeBench, ticks []api.RecipeTick) ([][]api.Range, api.Errno) {
	curves := make([][]api.Range, b.Setup.Cells)
	now := b.Start
	for _, t := range ticks {
		after, e := heat.BoxStep(b.Setup, now, exactSpan(b, t))
		if e != api.OK {
			return nil, api.ErrBreak
		}
		for i := range curves {
			lo, _ := heat.KelvinAt(b.Setup, after.Lo[i])
			hi, _ := heat.KelvinAt(b.Setup, after.Hi[i])
			r := span(lo.Num/lo.Den, hi.Num/hi.Den)
			if r.Hi*hi.Den < hi.Num {
				r.Hi++
			}
			curves[i] = append(curves[i], r)
		}
		now = after
	}
	return curves, api.OK
}

// exactBands are the bands of all cells by the definition.
func exactBands(o api.RecipeOrder, ticks []api.RecipeTick) ([]api.Range, api.Errno) {
	curves, e := exactCurves(o.Bench, ticks)
	if e != api.OK {
		return nil, e
	}
	for _, curve := range curves {
		for _, r := range curve {
			if r.Hi-r.Lo > 50 {
				return nil, api.ErrLarge
			}
		}
	}
	var bands []api.Range
	for _, curve := range curves {
		b, e := steel.BoxRun(o.Rules, api.SteelBox{Parent: one(whole)}, curve)
		if e != api.OK {
			panic(e)
		}
		band, _ := steel.BandOf(o.Rules, b)
		bands = append(bands, band)
	}
	return bands, api.OK
}

// exactCritical is the critical point of ticks by the definition.
func exactCritical(o api.RecipeOrder, ticks []api.RecipeTick) (int, api.Errno) {
	bands, e := exactBands(o, ticks)
	if e != api.OK {
		return 0, e
	}
	for i, p := range o.Points {
		band := bands[p.Cell]
		if band.Lo < p.Hard.Lo || band.Hi > p.Hard.Hi {
			return i, api.OK
		}
	}
	curves, _ := exactCurves(o.Bench, ticks)
	for _, r := range slices.Concat(curves...) {
		if r.Hi > o.Edge {
			return len(o.Points), api.OK
		}
	}
	return 0, api.ErrNone
}

// exactBound is the bound of an order by the definition.
func exactBound(o api.RecipeOrder, power int) (int, api.Errno) {
	d := api.HeatDrive{}
	for _, w := range o.Bench.Weights {
		d.Powers = append(d.Powers, power*w.Hi/1000)
	}
	states := [][]int{o.Bench.Start.Hi}
	for len(states) <= 200 {
		after, e := heat.Stepped(o.Bench.Setup, states[len(states)-1], d)
		if e != api.OK {
			break
		}
		states = append(states, after)
	}
	broken := len(states) <= 200
	bound := 0
	for _, p := range o.Points {
		if p.Hard.Lo <= o.Rules.Hard[0] {
			continue
		}
		if len(o.Rules.Heats) == 0 {
			return 0, api.ErrNone
		}
		n := slices.IndexFunc(states, func(e []int) bool { return compares(o.Bench, e[p.Cell], o.Rules.Heats[0].Kelvin) >= 0 })
		if n < 0 && !broken {
			return 0, api.ErrNone
		}
		if n < 0 {
			n = len(states) - 1
		}
		bound = max(bound, n)
	}
	return bound, api.OK
}

// exactRecipes are all recipes of a class, in the order of their numbers.
func exactRecipes(l []api.RecipeChoice) [][]api.RecipePhase {
	all := [][]api.RecipePhase{nil}
	for _, c := range l {
		var longer [][]api.RecipePhase
		for _, before := range all {
			for _, n := range c.Ticks {
				p := c.Phase
				p.Ticks = n
				longer = append(longer, append(slices.Clone(before), p))
			}
		}
		all = longer
	}
	return all
}
