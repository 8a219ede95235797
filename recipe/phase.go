// Package recipe is chapter 5: recipes that hold for every steel and set-up. See shared/doc/05-recipe.md.
package recipe

import "martensite/api"

// words are the words of the kinds of phases.
var words = [api.RecipeKinds]string{
	api.RecipeHeat:   "heat",
	api.RecipeDwell:  "dwell",
	api.RecipeQuench: "quench",
	api.RecipeUntil:  "until",
	api.RecipeCool:   "cool",
	api.RecipeRepeat: "repeat",
}

// use is a number that a kind of phase uses: its name, how it is found in a phase, and its limits.
type use struct {
	name   string
	of     func(api.RecipePhase) int
	lo, hi int
}

// usesOf are the numbers that a kind of phase uses, in the order of its string.
func usesOf(kind int) []use {
	power := use{"POWER", func(p api.RecipePhase) int { return p.Power }, 1, api.MaxHeatPower}
	law := use{"LAW", func(p api.RecipePhase) int { return p.Law }, 0, api.MaxHeatLaws - 1}
	kelvin := use{"KELVIN", func(p api.RecipePhase) int { return p.Kelvin }, api.MinHeatKelvin, api.MaxHeatKelvin}
	ticks := use{"TICKS", func(p api.RecipePhase) int { return p.Ticks }, 1, api.MaxRecipeTicks}
	switch kind {
	case api.RecipeHeat:
		return []use{power, ticks}
	case api.RecipeDwell:
		return []use{ticks}
	case api.RecipeQuench:
		return []use{law, ticks}
	case api.RecipeUntil:
		return []use{kelvin, power, ticks}
	case api.RecipeCool:
		return []use{kelvin, law, ticks}
	case api.RecipeRepeat:
		ticks.hi = api.MaxRecipeTimes
		return []use{ticks}
	}
	return nil
}

// placesOf are the places of the numbers of a phase, by their names.
func placesOf(p *api.RecipePhase) map[string]*int {
	return map[string]*int{"POWER": &p.Power, "LAW": &p.Law, "KELVIN": &p.Kelvin, "TICKS": &p.Ticks}
}

// isKind is whether a kind is one of the six.
func isKind(kind int) bool { return kind >= 0 && kind < api.RecipeKinds }

// isCooling is whether a phase may be the last one of a recipe.
func isCooling(p api.RecipePhase) bool {
	return p.Kind == api.RecipeQuench || p.Kind == api.RecipeCool
}

// formError is ErrForm if a phase has something that its kind does not use.
func formError(p api.RecipePhase) api.Errno {
	if p.Kind != api.RecipeRepeat && len(p.Body) > 0 {
		return api.ErrForm
	}
	unused := placesOf(&p)
	for _, u := range usesOf(p.Kind) {
		delete(unused, u.name)
	}
	for _, n := range unused {
		if *n != 0 {
			return api.ErrForm
		}
	}
	return api.OK
}

// limitsError is ErrRange if a number that the kind of a phase uses is outside its limits.
func limitsError(p api.RecipePhase) api.Errno {
	for _, u := range usesOf(p.Kind) {
		if e := rangeError(u.lo, u.hi, u.of(p)); e != api.OK {
			return e
		}
	}
	return api.OK
}

// phaseError is the error of a phase that stands in so many repeats.
func phaseError(p api.RecipePhase, depth int) api.Errno {
	if !isKind(p.Kind) {
		return api.ErrKind
	}
	e := firstOf(formError(p), limitsError(p))
	if e != api.OK || p.Kind != api.RecipeRepeat {
		return e
	}
	if depth >= api.MaxRecipeDepth {
		return api.ErrFull
	}
	_, e = listError(p.Body, depth+1)
	return e
}

// listError finds the error of a list of phases that stands in so many repeats, and the index of the phase that has it.
func listError(l []api.RecipePhase, depth int) (int, api.Errno) {
	e := firstOf(
		errorIf(len(l) == 0, api.ErrShape),
		errorIf(len(l) > api.MaxRecipePhases, api.ErrLarge))
	if e != api.OK {
		return 0, e
	}
	for i, p := range l {
		if e := phaseError(p, depth); e != api.OK {
			return i, e
		}
	}
	return 0, api.OK
}

// flatCount is how many phases a list without an error has when it is flattened. There may be millions, so they are only counted.
func flatCount(l []api.RecipePhase) int {
	count := 0
	for _, p := range l {
		if p.Kind == api.RecipeRepeat {
			count += p.Ticks * flatCount(p.Body)
		} else {
			count++
		}
	}
	return count
}

// flattened are the phases of a list without an error when it is flattened.
func flattened(l []api.RecipePhase) []api.RecipePhase {
	var all []api.RecipePhase
	for _, p := range l {
		if p.Kind != api.RecipeRepeat {
			p.Body = nil // An empty body may still have memory of the argument.
			all = append(all, p)
			continue
		}
		body := flattened(p.Body)
		for range p.Ticks {
			all = append(all, body...)
		}
	}
	return all
}

// recipeError is the error of a recipe.
func recipeError(l []api.RecipePhase) api.Errno {
	_, e := CheckRecipe(l)
	return e
}

// CheckRecipe finds the error of a recipe, and the index of the phase that has it.
func CheckRecipe(l []api.RecipePhase) (int, api.Errno) {
	if i, e := listError(l, 0); e != api.OK {
		return i, e
	}
	if flatCount(l) > api.MaxRecipeFlat {
		return 0, api.ErrLarge
	}
	all := flattened(l)
	return 0, errorIf(!isCooling(all[len(all)-1]), api.ErrState)
}

// Flattened are the phases of a recipe without its repeats.
func Flattened(l []api.RecipePhase) ([]api.RecipePhase, api.Errno) {
	if e := recipeError(l); e != api.OK {
		return nil, e
	}
	return flattened(l), api.OK
}
