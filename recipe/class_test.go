package recipe_test

import (
	"math"
	"math/rand"
	"slices"
	"testing"

	"martensite/api"
	"martensite/recipe"
)

// badClass is a class with an error, and the index of the choice that has it.
type badClass struct {
	l     []api.RecipeChoice
	index int
	e     api.Errno
}

// choice is a choice.
func choice(p api.RecipePhase, ticks ...int) api.RecipeChoice {
	return api.RecipeChoice{Phase: p, Ticks: ticks}
}

// upTo are the numbers from 1 on.
func upTo(n int) []int {
	var l []int
	for i := range n {
		l = append(l, i+1)
	}
	return l
}

// badClasses are classes with errors; where there are several, the one that is listed first.
func badClasses() []badClass {
	end, wrong := choice(quench(0, 0), 1), choice(hot(0, 1))
	unknown := api.RecipePhase{Kind: 6}
	l := []badClass{
		{nil, 0, api.ErrShape},
		{slices.Repeat([]api.RecipeChoice{wrong}, 13), 0, api.ErrLarge},
		{slices.Repeat([]api.RecipeChoice{end}, 13), 0, api.ErrLarge},
		{[]api.RecipeChoice{end, wrong}, 1, api.ErrState},
		{[]api.RecipeChoice{choice(quench(0, 5), 5), end}, 0, api.ErrState},
		{[]api.RecipeChoice{end, choice(quench(0, -1), 1), wrong}, 1, api.ErrState},
		{[]api.RecipeChoice{end, end, choice(repeat(0, quench(0, 1)), 1)}, 2, api.ErrState},
		{[]api.RecipeChoice{choice(repeat(0))}, 0, api.ErrState},
		{[]api.RecipeChoice{end, choice(unknown)}, 1, api.ErrShape},
		{[]api.RecipeChoice{choice(hot(0, 0))}, 0, api.ErrShape},
		{[]api.RecipeChoice{end, choice(unknown, -1), wrong}, 1, api.ErrKind},
		{[]api.RecipeChoice{choice(api.RecipePhase{Kind: -1}, 2, 1)}, 0, api.ErrKind},
		{[]api.RecipeChoice{end, choice(api.RecipePhase{Kind: api.RecipeDwell, Power: 1}, -1)}, 1, api.ErrForm},
		{[]api.RecipeChoice{choice(api.RecipePhase{Kind: api.RecipeQuench, Body: phases(unknown)}, 0)}, 0, api.ErrForm},
		{[]api.RecipeChoice{choice(hot(0, 0), 2, 1), end}, 0, api.ErrRange},
		{[]api.RecipeChoice{end, choice(until(199, 1, 0), 2, 1), end}, 1, api.ErrRange},
		{[]api.RecipeChoice{choice(quench(4, 0), 2)}, 0, api.ErrRange},
		{[]api.RecipeChoice{choice(dwell(0), 0, 1), end}, 0, api.ErrRange},
		{[]api.RecipeChoice{choice(dwell(0), 201), end}, 0, api.ErrRange},
		{[]api.RecipeChoice{end, choice(dwell(0), 1, 0, 5, 4), end}, 1, api.ErrRange},
		{[]api.RecipeChoice{choice(dwell(0), 1, 201), end}, 0, api.ErrRange},
		{[]api.RecipeChoice{choice(dwell(0), math.MinInt), end}, 0, api.ErrRange},
		{[]api.RecipeChoice{choice(dwell(0), 1, math.MaxInt), wrong}, 0, api.ErrRange},
		{[]api.RecipeChoice{end, choice(dwell(0), 1, 1, 0), end}, 1, api.ErrOrder},
		{[]api.RecipeChoice{choice(dwell(0), 5, 4, 201), wrong}, 0, api.ErrOrder},
		{[]api.RecipeChoice{end, end, choice(quench(0, 0), 1, 5, 9, 9)}, 2, api.ErrOrder},
		{[]api.RecipeChoice{choice(dwell(0), upTo(61)...)}, 0, api.ErrLarge},
		{[]api.RecipeChoice{choice(dwell(0), upTo(200)...), end}, 0, api.ErrLarge},
		{[]api.RecipeChoice{choice(dwell(0), upTo(31)...), choice(quench(0, 0), 1, 2)}, 0, api.ErrLarge},
		// So many recipes that their number is no int (or one that looks small).
		{slices.Repeat([]api.RecipeChoice{choice(quench(0, 0), upTo(200)...)}, 12), 0, api.ErrLarge},
		{slices.Repeat([]api.RecipeChoice{choice(quench(0, 0), upTo(128)...)}, 10), 0, api.ErrLarge},
		{slices.Repeat([]api.RecipeChoice{choice(quench(0, 0), upTo(64)...)}, 12), 0, api.ErrLarge},
		{slices.Repeat([]api.RecipeChoice{choice(quench(0, 0), upTo(16)...)}, 12), 0, api.ErrLarge},
		{[]api.RecipeChoice{choice(dwell(0), upTo(60)...)}, 0, api.ErrState},
		{[]api.RecipeChoice{end, choice(hot(1, 0), 1)}, 0, api.ErrState},
		{[]api.RecipeChoice{end, choice(until(300, 1, 0), 1)}, 0, api.ErrState},
	}
	return l
}

// goodClasses are classes without an error, each with its number of recipes.
func goodClasses() map[int][]api.RecipeChoice {
	return map[int][]api.RecipeChoice{
		9:  exampleClass(),
		1:  {choice(cool(300, 3, 0), 200)},
		60: {choice(dwell(0), upTo(30)...), choice(hot(10000, 0), 7), choice(quench(3, 0), 1, 200)},
		32: append(slices.Repeat([]api.RecipeChoice{choice(until(3000, 1, 0), 3, 4)}, 5), slices.Repeat([]api.RecipeChoice{choice(quench(0, 0), 1)}, 7)...),
	}
}

// P5.5
func TestCheckClass(t *testing.T) {
	for _, x := range badClasses() {
		i, e := recipe.CheckClass(x.l)
		want(t, "CheckClass", i, e, x.index, x.e)
		n, e := recipe.CountOf(x.l)
		want(t, "CountOf", n, e, 0, x.e)
		l, e := recipe.RecipeOf(x.l, -1)
		want(t, "RecipeOf", l, e, []int{}, x.e)
		n, ticks, e := recipe.ShortestOf(exampleOrder(), x.l)
		want(t, "ShortestOf", []int{n, ticks}, e, []int{0, 0}, x.e)
	}
	for count, l := range goodClasses() {
		i, e := recipe.CheckClass(l)
		want(t, "CheckClass", i, e, 0, api.OK)
		n, e := recipe.CountOf(l)
		want(t, "CountOf", n, e, count, api.OK)
		for _, number := range []int{-1, count, math.MinInt, math.MaxInt} {
			p, e := recipe.RecipeOf(l, number)
			want(t, "RecipeOf", p, e, []int{}, api.ErrMissing)
		}
	}
}

// P5.5: the first choice is the greatest digit
func TestRecipeOf(t *testing.T) {
	p, e := recipe.RecipeOf(exampleClass(), 4)
	want(t, "RecipeOf", p, e, phases(hot(400, 2), quench(1, 2)), api.OK)
	p, e = recipe.RecipeOf(exampleClass(), 5)
	want(t, "RecipeOf", p, e, phases(hot(400, 2), quench(1, 3)), api.OK)
	p, e = recipe.RecipeOf(exampleClass(), 6)
	want(t, "RecipeOf", p, e, phases(hot(400, 3), quench(1, 1)), api.OK)
	random := rand.New(rand.NewSource(9))
	classes := slices.Collect(func(yield func([]api.RecipeChoice) bool) {
		for range 300 {
			if !yield(someClass(random, 4)) {
				return
			}
		}
	})
	for _, l := range goodClasses() {
		classes = append(classes, l)
	}
	for _, l := range classes {
		all := exactRecipes(l)
		n, e := recipe.CountOf(l)
		want(t, "CountOf", n, e, len(all), api.OK)
		for number, wanted := range all {
			p, e := recipe.RecipeOf(l, number)
			want(t, "RecipeOf", p, e, wanted, api.OK)
			i, e := recipe.CheckRecipe(p)
			want(t, "CheckRecipe", i, e, 0, api.OK)
		}
	}
}

// P5.5, example 7
func TestShortestOfTheExample(t *testing.T) {
	n, ticks, e := recipe.ShortestOf(exampleOrder(), exampleClass())
	want(t, "ShortestOf", []int{n, ticks}, e, []int{4, 4}, api.OK)
	hotter := ordered(func(o *api.RecipeOrder) { o.Edge = 674 })
	n, ticks, e = recipe.ShortestOf(hotter, exampleClass())
	want(t, "ShortestOf", []int{n, ticks}, e, []int{0, 0}, api.ErrNone)
	harder := pointed(at(0, 801, 850))
	n, ticks, e = recipe.ShortestOf(harder, exampleClass())
	want(t, "ShortestOf", []int{n, ticks}, e, []int{0, 0}, api.ErrNone)
}

// P5.5: which recipe is the shortest one
func TestShortestRecipes(t *testing.T) {
	o := api.RecipeOrder{Bench: plain(0), Rules: exampleOrder().Rules, Edge: 600}
	for _, x := range []struct {
		l      []api.RecipeChoice
		number int
		ticks  int
		e      api.Errno
	}{
		// Of the same length the one with the smaller number.
		{[]api.RecipeChoice{choice(hot(1, 0), 1, 2, 3), choice(dwell(0), 1, 2, 3), choice(quench(0, 0), 2, 3)}, 0, 4, api.OK},
		{[]api.RecipeChoice{choice(hot(400, 0), 1, 2), choice(quench(2, 0), 1, 2)}, 0, 0, api.ErrNone},
		// Recipes that cannot be compiled do not count.
		{[]api.RecipeChoice{choice(quench(3, 0), 1, 2)}, 0, 0, api.ErrNone},
		{[]api.RecipeChoice{choice(until(310, 2, 0), 1, 4, 5, 9), choice(quench(0, 0), 2)}, 2, 7, api.OK},
		{[]api.RecipeChoice{choice(hot(300, 0), 1), choice(cool(350, 1, 0), 2, 3, 4)}, 1, 4, api.OK},
		{[]api.RecipeChoice{choice(hot(100, 0), 1, 2, 3), choice(quench(1, 0), 2)}, 1, 4, api.OK},
		// A longer recipe of phases may have fewer ticks.
		{[]api.RecipeChoice{choice(hot(100, 0), 1, 2), choice(until(500, 100, 0), 9), choice(cool(400, 1, 0), 5)}, 0, 3, api.OK},
		{[]api.RecipeChoice{choice(hot(300, 0), 1), choice(dwell(0), 100), choice(quench(0, 0), 99, 100)}, 0, 200, api.OK},
		{[]api.RecipeChoice{choice(hot(300, 0), 1), choice(dwell(0), 100), choice(quench(0, 0), 100)}, 0, 0, api.ErrNone},
		// The shortest one comes after longer ones.
		{[]api.RecipeChoice{choice(hot(150, 0), 1, 2), choice(until(600, 10, 0), 20), choice(quench(0, 0), 1)}, 1, 3, api.OK},
		{[]api.RecipeChoice{choice(hot(50, 0), 1, 2, 3), choice(until(450, 10, 0), 20), choice(quench(0, 0), 1, 2)}, 4, 4, api.OK},
		// All are done already.
		{[]api.RecipeChoice{choice(until(300, 100, 0), 2, 3), choice(cool(300, 1, 0), 1, 2)}, 0, 0, api.OK},
	} {
		n, ticks, e := recipe.ShortestOf(o, x.l)
		want(t, "ShortestOf", []int{n, ticks}, e, []int{x.number, x.ticks}, x.e)
	}
	// Recipes whose bands cannot be computed do not count.
	o.Edge = 3000
	o.Bench.Weights[0] = span(900, 1000)
	l := []api.RecipeChoice{choice(hot(501, 0), 1), choice(quench(0, 0), 1)}
	n, ticks, e := recipe.ShortestOf(o, l)
	want(t, "ShortestOf", []int{n, ticks}, e, []int{0, 0}, api.ErrNone)
	l[0].Phase.Power = 500
	n, ticks, e = recipe.ShortestOf(o, l)
	want(t, "ShortestOf", []int{n, ticks}, e, []int{0, 2}, api.OK)
	o.Bench.Weights[0], o.Bench.Spread = one(1000), 1
	n, ticks, e = recipe.ShortestOf(o, []api.RecipeChoice{choice(hot(50, 0), 1, 3), choice(quench(0, 0), 1)})
	want(t, "ShortestOf", []int{n, ticks}, e, []int{0, 0}, api.ErrNone)
}

// P5.5, P5.9: the shortest one of all recipes of a class
func TestShortestOf(t *testing.T) {
	found := map[api.Errno]int{}
	orders(t, func(random *rand.Rand, o api.RecipeOrder) {
		l := someClass(random, len(o.Bench.Setup.Laws))
		best, least, wanted := exactShortest(o, l)
		n, ticks, e := recipe.ShortestOf(o, l)
		want(t, "ShortestOf", []int{n, ticks}, e, []int{best, least}, wanted)
		found[e]++
	})
	if found[api.OK] < 500 || found[api.ErrNone] < 500 {
		t.Errorf("found %v", found)
	}
}

// exactShortest is the number of the shortest recipe by the definition, and that of its ticks.
func exactShortest(o api.RecipeOrder, l []api.RecipeChoice) (int, int, api.Errno) {
	best, least, found := 0, 0, api.ErrNone
	for number, p := range exactRecipes(l) {
		ticks, e := exactCompiled(o.Bench, p)
		if e != api.OK || found == api.OK && len(ticks) >= least {
			continue
		}
		if _, e := exactCritical(o, ticks); e == api.ErrNone {
			best, least, found = number, len(ticks), api.OK
		}
	}
	return best, least, found
}

// P5.9: recipes that harden have at least as many ticks as the bound
func TestShortestHasTheBound(t *testing.T) {
	found, tight := 0, 0
	orders(t, func(random *rand.Rand, o api.RecipeOrder) {
		if random.Intn(5) > 0 {
			return
		}
		o.Rules = exampleOrder().Rules
		o.Rules.Heats[0].Kelvin = 600 + random.Intn(200)
		o.Bench.Weights[0] = span(990, 1000)
		o.Points = []api.RecipePoint{at(0, 201+random.Intn(400), 800)}
		o.Edge = 3000
		power, numbers := 40+random.Intn(300), []int{1, 2, 3, 4, 6, 9, 14}
		l := []api.RecipeChoice{choice(hot(power, 0), numbers...), choice(cool(480, len(o.Bench.Setup.Laws)-1, 0), 50)}
		best, least, wanted := exactShortest(o, l)
		n, ticks, e := recipe.ShortestOf(o, l)
		want(t, "ShortestOf", []int{n, ticks}, e, []int{best, least}, wanted)
		if e != api.OK {
			return
		}
		bound, e := recipe.BoundOf(o, power)
		if e != api.OK || bound > ticks || bound < 1 {
			t.Errorf("the bound %d, %d for %d", bound, e, ticks)
		}
		found++
		tight += boolInt(bound == numbers[n])
	})
	if found < 80 || tight < 10 {
		t.Errorf("only %d are found, %d tight", found, tight)
	}
}

// R3: arguments are not modified, and results share no memory with them
func TestMemoryOfClasses(t *testing.T) {
	l := exampleClass()
	l[0].Phase.Body = make([]api.RecipePhase, 0, 3)
	p, _ := recipe.RecipeOf(l, 4)
	for i := range p {
		if cap(p[i].Body) > 0 {
			t.Error("a body has memory")
		}
		p[i].Ticks = -1
	}
	_, _, _ = recipe.ShortestOf(exampleOrder(), l)
	want(t, "the class", l, api.OK, exampleClass(), api.OK)
}
