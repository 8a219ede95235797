package recipe_test

import (
	"math"
	"math/rand"
	"slices"
	"testing"

	"martensite/api"
	"martensite/recipe"
)

// badRecipe is a recipe with an error, and the index of the phase that has it.
type badRecipe struct {
	l     []api.RecipePhase
	index int
	e     api.Errno
}

// setters set each number of a phase.
func setters() map[string]func(*api.RecipePhase, int) {
	return map[string]func(*api.RecipePhase, int){
		"power":  func(p *api.RecipePhase, n int) { p.Power = n },
		"law":    func(p *api.RecipePhase, n int) { p.Law = n },
		"kelvin": func(p *api.RecipePhase, n int) { p.Kelvin = n },
		"ticks":  func(p *api.RecipePhase, n int) { p.Ticks = n },
	}
}

// goodPhases are phases of all kinds.
func goodPhases() []api.RecipePhase {
	return phases(hot(5, 5), dwell(5), quench(1, 5), until(500, 5, 5), cool(500, 1, 5), repeat(5, dwell(5)))
}

// usedBy are the numbers that a kind uses, each with its limits.
func usedBy(kind int) map[string]api.Range {
	power, law, kelvin, ticks := span(1, 10000), span(0, 3), span(200, 3000), span(1, 200)
	return []map[string]api.Range{
		{"power": power, "ticks": ticks},
		{"ticks": ticks},
		{"law": law, "ticks": ticks},
		{"kelvin": kelvin, "power": power, "ticks": ticks},
		{"kelvin": kelvin, "law": law, "ticks": ticks},
		{"ticks": span(1, 10)},
	}[kind]
}

// nested is a phase in so many repeats of one time.
func nested(depth int, p api.RecipePhase) api.RecipePhase {
	for range depth {
		p = repeat(1, p)
	}
	return p
}

// badNumbers are phases of which one number is wrong.
func badNumbers() map[api.Errno][]api.RecipePhase {
	bad := map[api.Errno][]api.RecipePhase{}
	for kind, p := range goodPhases() {
		for name, set := range setters() {
			r, used := usedBy(kind)[name]
			wrong, e := []int{1, -1, math.MinInt, math.MaxInt}, api.ErrForm
			if used {
				wrong, e = []int{r.Lo - 1, r.Hi + 1, math.MinInt, math.MaxInt}, api.ErrRange
			}
			for _, n := range wrong {
				x := p
				set(&x, n)
				bad[e] = append(bad[e], x)
			}
		}
	}
	return bad
}

// badRecipes are recipes with errors; where there are several, the one that is listed first.
func badRecipes() []badRecipe {
	unknown, end := api.RecipePhase{Kind: 6}, quench(0, 1)
	twelve, thirteen := slices.Repeat(phases(end), 12), slices.Repeat(phases(unknown), 13)
	l := []badRecipe{
		{nil, 0, api.ErrShape},
		{thirteen, 0, api.ErrLarge},
		{append(slices.Clone(twelve), end), 0, api.ErrLarge},
		{phases(end, unknown, api.RecipePhase{}), 1, api.ErrKind},
		{phases(end, api.RecipePhase{Kind: -1, Power: -1, Ticks: -1, Body: phases(unknown)}), 1, api.ErrKind},
		{phases(api.RecipePhase{Kind: math.MinInt}), 0, api.ErrKind},
		{phases(api.RecipePhase{Kind: math.MaxInt}), 0, api.ErrKind},
		// What is not used comes before what is outside its limits.
		{phases(end, end, api.RecipePhase{Kind: api.RecipeDwell, Power: 1}), 2, api.ErrForm},
		{phases(api.RecipePhase{Kind: api.RecipeHeat, Law: 1, Power: 10001}), 0, api.ErrForm},
		{phases(api.RecipePhase{Kind: api.RecipeRepeat, Kelvin: 1, Ticks: 11}), 0, api.ErrForm},
		// Repeats.
		{phases(end, repeat(11)), 1, api.ErrRange},
		{phases(end, repeat(10), end), 1, api.ErrShape},
		{phases(repeat(10, thirteen...)), 0, api.ErrLarge},
		{phases(end, end, repeat(1, end, unknown)), 2, api.ErrKind},
		{phases(end, repeat(1, end, repeat(2, dwell(201)))), 1, api.ErrRange},
		{phases(repeat(1, end, end, api.RecipePhase{}), unknown), 0, api.ErrRange},
		{phases(end, nested(4, end)), 1, api.ErrFull},
		{phases(nested(4, unknown)), 0, api.ErrFull},
		{phases(nested(3, repeat(11, unknown))), 0, api.ErrRange},
		{phases(nested(3, api.RecipePhase{Kind: api.RecipeRepeat, Law: 1})), 0, api.ErrForm},
		{phases(nested(3, repeat(1))), 0, api.ErrFull},
		{phases(nested(3, unknown)), 0, api.ErrKind},
		{phases(nested(1000, end)), 0, api.ErrFull},
		// Too many phases when it is flattened, and the last one.
		{phases(repeat(10, twelve[:6]...), end), 0, api.ErrLarge},
		{phases(end, repeat(10, twelve[:6]...)), 0, api.ErrLarge},
		{phases(end, repeat(10, twelve[:6]...), hot(1, 1)), 0, api.ErrLarge},
		{phases(end, repeat(3, repeat(2, twelve[:10]...)), hot(1, 1)), 0, api.ErrLarge},
		{phases(end, repeat(10, twelve[:6]...), unknown), 2, api.ErrKind},
		{phases(end, hot(1, 1)), 0, api.ErrState},
		{phases(end, dwell(1)), 0, api.ErrState},
		{phases(end, until(300, 1, 1)), 0, api.ErrState},
		{phases(end, repeat(2, end, hot(1, 1))), 0, api.ErrState},
		{phases(end, repeat(2, end, repeat(2, end, dwell(1)))), 0, api.ErrState},
		{phases(repeat(10, slices.Repeat(phases(hot(1, 1)), 6)...)), 0, api.ErrState},
	}
	for e, bad := range badNumbers() {
		for _, p := range bad {
			l = append(l, badRecipe{phases(end, p), 1, e}, badRecipe{phases(nested(1, p)), 0, e})
		}
	}
	for _, p := range goodPhases()[:5] {
		p.Body = phases(end)
		l = append(l, badRecipe{phases(p, unknown), 0, api.ErrForm})
	}
	return append(l, crowded())
}

// crowded is a recipe with millions of phases when it is flattened.
func crowded() badRecipe {
	p := quench(0, 1)
	for range 3 {
		p = repeat(10, slices.Repeat(phases(p), 12)...)
	}
	return badRecipe{slices.Repeat(phases(p), 12), 0, api.ErrLarge}
}

// goodRecipes are recipes without an error.
func goodRecipes() [][]api.RecipePhase {
	end := quench(0, 1)
	return [][]api.RecipePhase{
		exampleRecipe(),
		phases(end),
		phases(cool(200, 3, 200)),
		phases(hot(1, 1), hot(10000, 200), dwell(1), dwell(200), quench(3, 200), until(200, 1, 1), until(3000, 10000, 200), cool(3000, 0, 1)),
		phases(hot(400, 2), quench(1, 3), hot(100, 2), quench(1, 3)),
		phases(nested(3, end)),
		phases(repeat(10, hot(1, 1), repeat(1, cool(300, 1, 5)))),
		phases(repeat(10, slices.Repeat(phases(end), 6)...)),
		phases(repeat(5, slices.Repeat(phases(end), 12)...)),
		slices.Repeat(phases(repeat(5, end)), 12),
	}
}

// P5.1
func TestCheckRecipe(t *testing.T) {
	for _, b := range badRecipes() {
		i, e := recipe.CheckRecipe(b.l)
		want(t, "CheckRecipe", i, e, b.index, b.e)
		l, e := recipe.Flattened(b.l)
		want(t, "Flattened", l, e, phases(), b.e)
	}
	for _, l := range goodRecipes() {
		i, e := recipe.CheckRecipe(l)
		want(t, "CheckRecipe", i, e, 0, api.OK)
	}
}

// P5.1: the limits of all numbers belong to them
func TestLimitsOfPhases(t *testing.T) {
	for kind, p := range goodPhases() {
		for name, r := range usedBy(kind) {
			for _, n := range []int{r.Lo, r.Hi} {
				x := p
				setters()[name](&x, n)
				i, e := recipe.CheckRecipe(phases(x, quench(0, 1)))
				want(t, "CheckRecipe "+name, i, e, 0, api.OK)
			}
		}
	}
}

// P5.1: recipes with about so many phases as there may be when they are flattened
func TestSizesOfRecipes(t *testing.T) {
	random := rand.New(rand.NewSource(7))
	found := map[api.Errno]int{}
	for range 2000 {
		inner := repeat(1+random.Intn(5), slices.Repeat(phases(dwell(1)), 1+random.Intn(4))...)
		outer := repeat(1+random.Intn(6), inner, dwell(1), hot(1, 1))
		l := append(slices.Repeat(phases(outer), 1+random.Intn(2)), quench(0, 1))
		wanted := api.OK
		if len(exactFlat(l)) > 60 {
			wanted = api.ErrLarge
		}
		i, e := recipe.CheckRecipe(l)
		want(t, "CheckRecipe", i, e, 0, wanted)
		found[e]++
	}
	if found[api.OK] < 300 || found[api.ErrLarge] < 300 {
		t.Errorf("found %v", found)
	}
}

// isShallow is whether a phase has at most so many repeats in one another.
func isShallow(p api.RecipePhase, depth int) bool {
	if p.Kind != api.RecipeRepeat {
		return true
	}
	deep := func(x api.RecipePhase) bool { return !isShallow(x, depth-1) }
	return depth > 0 && !slices.ContainsFunc(p.Body, deep)
}

// P5.1, example 8
func TestFlattenedExample(t *testing.T) {
	l, e := recipe.Flattened(phases(repeat(2, hot(10, 1), dwell(3)), quench(0, 5)))
	want(t, "Flattened", l, e, phases(hot(10, 1), dwell(3), hot(10, 1), dwell(3), quench(0, 5)), api.OK)
	l, e = recipe.Flattened(phases(repeat(2, dwell(1), repeat(3, hot(7, 1), repeat(1, quench(1, 9))), cool(300, 1, 2))))
	inner := slices.Repeat(phases(hot(7, 1), quench(1, 9)), 3)
	once := slices.Concat(phases(dwell(1)), inner, phases(cool(300, 1, 2)))
	want(t, "Flattened", l, e, slices.Concat(once, once), api.OK)
}

// P5.11
func TestFlattened(t *testing.T) {
	repeats, compiled := 0, 0
	orders(t, func(random *rand.Rand, o api.RecipeOrder) {
		l := someRecipe(random, len(o.Bench.Setup.Laws))
		flat, e := recipe.Flattened(l)
		if e != api.OK {
			want(t, "Flattened", flat, e, phases(), e)
			return
		}
		want(t, "Flattened", flat, e, exactFlat(l), api.OK)
		if slices.ContainsFunc(flat, func(p api.RecipePhase) bool { return p.Kind == api.RecipeRepeat }) {
			t.Errorf("%v has a repeat", flat)
		}
		if len(flat) > len(l) {
			repeats++
		}
		if len(flat) > api.MaxRecipePhases {
			return
		}
		a, e := recipe.Compiled(o.Bench, l)
		b, f := recipe.Compiled(o.Bench, flat)
		want(t, "Compiled", b, f, a, e)
		if e == api.OK {
			compiled++
		}
		if once := phases(repeat(1, l...)); isShallow(once[0], api.MaxRecipeDepth) {
			again, e := recipe.Flattened(once)
			want(t, "a repeat of one time", again, e, flat, api.OK)
		}
	})
	if repeats < 200 || compiled < 200 {
		t.Errorf("only %d have repeats, and %d were compiled", repeats, compiled)
	}
}

// R3: the results share no memory with the argument or with each other, also that of empty bodies
func TestMemoryOfRecipes(t *testing.T) {
	end := quench(0, 1)
	end.Body = make([]api.RecipePhase, 0, 3)
	l := phases(repeat(2, end), end)
	flat, e := recipe.Flattened(l)
	want(t, "Flattened", flat, e, phases(quench(0, 1), quench(0, 1), quench(0, 1)), api.OK)
	for i := range flat {
		if cap(flat[i].Body) > 0 {
			t.Error("a body has memory")
		}
		flat[i].Ticks += 1 + i
	}
	want(t, "Flattened", flat, e, phases(quench(0, 2), quench(0, 3), quench(0, 4)), api.OK)
	want(t, "the recipe", l, e, phases(repeat(2, quench(0, 1)), quench(0, 1)), api.OK)
}
