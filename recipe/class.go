package recipe

import (
	"slices"

	"martensite/api"
)

// candidate is the number of a recipe of a class, and its ticks.
type candidate struct {
	number int
	ticks  []api.RecipeTick
}

// chosen is the phase of a choice with so many ticks.
func chosen(c api.RecipeChoice, ticks int) api.RecipePhase {
	p := c.Phase
	p.Ticks = ticks
	return p
}

// numbersError is the error of the numbers of ticks of a choice.
func numbersError(numbers []int) api.Errno {
	for i, n := range numbers {
		e := firstOf(
			rangeError(1, api.MaxRecipeTicks, n),
			errorIf(i > 0 && n <= numbers[i-1], api.ErrOrder))
		if e != api.OK {
			return e
		}
	}
	return api.OK
}

// choiceError is the error of a choice.
func choiceError(c api.RecipeChoice) api.Errno {
	if c.Phase.Ticks != 0 || c.Phase.Kind == api.RecipeRepeat {
		return api.ErrState
	}
	if len(c.Ticks) == 0 {
		return api.ErrShape
	}
	return firstOf(phaseError(chosen(c, c.Ticks[0]), 0), numbersError(c.Ticks))
}

// count is the number of recipes of choices without an error. One that is too large is not exact, as it might not be an int.
func count(l []api.RecipeChoice) int {
	n := 1
	for _, c := range l {
		n = min(n*len(c.Ticks), api.MaxRecipeCount+1)
	}
	return n
}

// recipeAt is the recipe of a class with a number.
func recipeAt(l []api.RecipeChoice, number int) []api.RecipePhase {
	phases := make([]api.RecipePhase, len(l))
	for i, c := range slices.Backward(l) {
		phases[i] = chosen(c, c.Ticks[number%len(c.Ticks)])
		number /= len(c.Ticks)
	}
	return flattened(phases)
}

// candidates are the recipes of a class that can be compiled, from the shortest one on; of the same length in their order.
func (b bench) candidates(l []api.RecipeChoice) []candidate {
	var all []candidate
	for number := range count(l) {
		if ticks, e := b.compiled(recipeAt(l, number)); e == api.OK {
			all = append(all, candidate{number, ticks})
		}
	}
	slices.SortStableFunc(all, func(x, y candidate) int { return len(x.ticks) - len(y.ticks) })
	return all
}

// classError is the error of a class.
func classError(l []api.RecipeChoice) api.Errno {
	_, e := CheckClass(l)
	return e
}

// CheckClass finds the error of a class, and the index of the choice that has it.
func CheckClass(l []api.RecipeChoice) (int, api.Errno) {
	e := firstOf(
		errorIf(len(l) == 0, api.ErrShape),
		errorIf(len(l) > api.MaxRecipePhases, api.ErrLarge))
	if e != api.OK {
		return 0, e
	}
	for i, c := range l {
		if e := choiceError(c); e != api.OK {
			return i, e
		}
	}
	return 0, firstOf(
		errorIf(count(l) > api.MaxRecipeCount, api.ErrLarge),
		errorIf(!isCooling(l[len(l)-1].Phase), api.ErrState))
}

// CountOf is the number of recipes of a class.
func CountOf(l []api.RecipeChoice) (int, api.Errno) {
	if e := classError(l); e != api.OK {
		return 0, e
	}
	return count(l), api.OK
}

// RecipeOf is the recipe of a class with a number.
func RecipeOf(l []api.RecipeChoice, number int) ([]api.RecipePhase, api.Errno) {
	if e := classError(l); e != api.OK {
		return nil, e
	}
	if number < 0 || number >= count(l) {
		return nil, api.ErrMissing
	}
	return recipeAt(l, number), api.OK
}

// ShortestOf is the number of the shortest recipe of a class for an order, and the number of its ticks.
func ShortestOf(o api.RecipeOrder, l []api.RecipeChoice) (int, int, api.Errno) {
	if e := firstOf(orderError(o), classError(l)); e != api.OK {
		return 0, 0, e
	}
	x := orderOf(o)
	for _, c := range x.candidates(l) {
		if x.isKept(c.ticks) {
			return c.number, len(c.ticks), api.OK
		}
	}
	return 0, 0, api.ErrNone
}
