package recipe

import (
	"slices"

	"martensite/api"
	"martensite/heat"
)

// course is ticks, and the energies of the nominal part of a bench after them.
type course struct {
	bench
	energies []int
	ticks    []api.RecipeTick
}

// begin is the course without ticks.
func (b bench) begin() course { return course{bench: b, energies: b.Start.Lo} }

// step adds a tick, or returns the error of a step that leaves the table.
func (c *course) step(t api.RecipeTick) api.Errno {
	after, e := heat.Stepped(c.Setup, c.energies, c.drive(t, middle))
	if e != api.OK {
		return e
	}
	c.energies = after
	c.ticks = append(c.ticks, t)
	return api.OK
}

// needs is whether a phase that has had so many ticks needs one more.
func (c *course) needs(p api.RecipePhase, had int) bool {
	switch p.Kind {
	case api.RecipeUntil:
		return c.colder(c.energies[0], p.Kelvin)
	case api.RecipeCool:
		return c.hotter(c.energies[0], p.Kelvin)
	}
	return had < p.Ticks
}

// tickOf is the tick of a phase that is no repeat. A kind that uses no power has the power 0.
func (b bench) tickOf(p api.RecipePhase) api.RecipeTick {
	if isCooling(p) {
		return api.RecipeTick{Law: p.Law}
	}
	return api.RecipeTick{Power: p.Power, Law: b.Air}
}

// phase adds the ticks of a phase that is no repeat.
func (c *course) phase(p api.RecipePhase) api.Errno {
	for had := 0; c.needs(p, had); had++ {
		e := firstOf(
			errorIf(had == p.Ticks, api.ErrRefused),
			errorIf(len(c.ticks) == api.MaxRecipeTicks, api.ErrLarge))
		if e != api.OK {
			return e
		}
		if e := c.step(c.tickOf(p)); e != api.OK {
			return e
		}
	}
	return api.OK
}

// compiled are the ticks of flattened phases.
func (b bench) compiled(l []api.RecipePhase) ([]api.RecipeTick, api.Errno) {
	unknown := func(p api.RecipePhase) bool { return lawError(b.Setup, p.Law) != api.OK }
	if slices.ContainsFunc(l, unknown) {
		return nil, api.ErrMissing
	}
	c := b.begin()
	for _, p := range l {
		if e := c.phase(p); e != api.OK {
			return nil, e
		}
	}
	return c.ticks, api.OK
}

// isHot is whether some cell is hotter than a temperature.
func (c *course) isHot(kelvin int) bool {
	return slices.ContainsFunc(c.energies, func(energy int) bool { return c.hotter(energy, kelvin) })
}

// cool adds ticks with the greatest loss until no cell is hotter than a temperature.
func (c *course) cool(kelvin, most int) api.Errno {
	for had := 0; c.isHot(kelvin); had++ {
		if had == most {
			return api.ErrRefused
		}
		if e := c.step(api.RecipeTick{Law: c.lastLaw()}); e != api.OK {
			return e
		}
	}
	return api.OK
}

// stopped are the ticks of a recipe that is stopped.
func (b bench) stopped(ticks []api.RecipeTick, x api.RecipeStop) ([]api.RecipeTick, api.Errno) {
	c := b.begin()
	for _, t := range ticks[:x.After] {
		if e := c.step(t); e != api.OK {
			return nil, e
		}
	}
	if e := c.cool(x.Kelvin, x.Most); e != api.OK {
		return nil, e
	}
	return c.ticks, api.OK
}

// stopError is the error of a stop of so many ticks.
func stopError(ticks int, x api.RecipeStop) api.Errno {
	return firstOf(
		rangeError(0, ticks, x.After),
		kelvinError(x.Kelvin),
		rangeError(0, api.MaxRecipeTicks, x.Most))
}

// Compiled are the ticks of a recipe.
func Compiled(b api.RecipeBench, l []api.RecipePhase) ([]api.RecipeTick, api.Errno) {
	if e := firstOf(benchError(b), recipeError(l)); e != api.OK {
		return nil, e
	}
	return bench{b}.compiled(flattened(l))
}

// StoppedAt are the ticks of a recipe that is stopped, and whether the part is spoilt.
func StoppedAt(b api.RecipeBench, ticks []api.RecipeTick, x api.RecipeStop) ([]api.RecipeTick, bool, api.Errno) {
	e := firstOf(benchError(b), ticksError(b, ticks), stopError(len(ticks), x))
	if e != api.OK {
		return nil, false, e
	}
	l, e := bench{b}.stopped(ticks, x)
	if e != api.OK {
		return nil, false, e
	}
	return l, x.After < len(ticks), api.OK
}
