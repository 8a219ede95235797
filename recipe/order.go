package recipe

import (
	"martensite/api"
	"martensite/heat"
	"martensite/steel"
)

// order is an order without an error, and its bench.
type order struct {
	api.RecipeOrder
	bench
}

// outcome is the curves and the bands of ticks.
type outcome struct {
	curves [][]api.Range
	bands  []api.Range
}

// orderOf is the order of a given one without an error.
func orderOf(o api.RecipeOrder) order { return order{o, bench{o.Bench}} }

// outcomeOf is the outcome of ticks without an error.
func (o order) outcomeOf(ticks []api.RecipeTick) (outcome, api.Errno) {
	curves, e := o.curves(ticks)
	if e != api.OK {
		return outcome{}, e
	}
	parent, _ := steel.BoxOf(api.SteelState{Parent: api.SteelWhole})
	bands, e := steel.ProfileOf(o.Rules, parent, curves)
	return outcome{curves, bands}, e
}

// keeps is whether a point is kept.
func (x outcome) keeps(p api.RecipePoint) bool {
	band := x.bands[p.Cell]
	return p.Hard.Lo <= band.Lo && band.Hi <= p.Hard.Hi
}

// peak is the highest upper end of all curves, 0 if there are no ticks.
func (x outcome) peak() int {
	peak := 0
	for _, curve := range x.curves {
		for _, kelvins := range curve {
			peak = max(peak, kelvins.Hi)
		}
	}
	return peak
}

// critical is the index of the first point that is not kept, the number of points if only the edge is not, or ErrNone.
func (o order) critical(x outcome) (int, api.Errno) {
	for i, p := range o.Points {
		if !x.keeps(p) {
			return i, api.OK
		}
	}
	if x.peak() > o.Edge {
		return len(o.Points), api.OK
	}
	return 0, api.ErrNone
}

// isKept is whether ticks without an error keep the order.
func (o order) isKept(ticks []api.RecipeTick) bool {
	x, e := o.outcomeOf(ticks)
	if e != api.OK {
		return false
	}
	_, e = o.critical(x)
	return e == api.ErrNone
}

// stepsTo is the number of steps after which a cell, heated as much as possible, can have a temperature, if that is a number of ticks. If the next step leaves the table it may have it then.
func (o order) stepsTo(kelvin, cell, power int) (int, api.Errno) {
	upper := func(weight api.Range) int { return weight.Hi }
	d := o.drive(api.RecipeTick{Power: power}, upper)
	energies := o.Start.Hi
	for steps := range api.MaxRecipeTicks + 1 {
		if !o.colder(energies[cell], kelvin) {
			return steps, api.OK
		}
		after, e := heat.Stepped(o.Setup, energies, d)
		if e != api.OK {
			return steps, api.OK
		}
		energies = after
	}
	return 0, api.ErrNone
}

// bound is the bound of the order. Parent steel becomes harder only after it was hot.
func (o order) bound(power int) (int, api.Errno) {
	most := 0
	for _, p := range o.Points {
		if p.Hard.Lo <= o.Rules.Hard[0] {
			continue
		}
		if len(o.Rules.Heats) == 0 {
			return 0, api.ErrNone
		}
		steps, e := o.stepsTo(o.Rules.Heats[0].Kelvin, p.Cell, power)
		if e != api.OK {
			return 0, e
		}
		most = max(most, steps)
	}
	return most, api.OK
}

// orderError is the error of an order.
func orderError(o api.RecipeOrder) api.Errno {
	_, e := CheckOrder(o)
	return e
}

// outcomeFor is the outcome of ticks for an order, or the error of these.
func outcomeFor(o api.RecipeOrder, ticks []api.RecipeTick) (outcome, api.Errno) {
	if e := firstOf(orderError(o), ticksError(o.Bench, ticks)); e != api.OK {
		return outcome{}, e
	}
	return orderOf(o).outcomeOf(ticks)
}

// CheckOrder finds the error of an order, and the index of the point that has it.
func CheckOrder(o api.RecipeOrder) (int, api.Errno) {
	_, wrongRules := steel.CheckRules(o.Rules)
	e := firstOf(benchError(o.Bench), wrongRules, errorIf(len(o.Points) > api.MaxRecipePoints, api.ErrLarge))
	if e != api.OK {
		return 0, e
	}
	for i, p := range o.Points {
		e := firstOf(
			errorIf(p.Cell < 0 || p.Cell >= o.Bench.Setup.Cells, api.ErrMissing),
			endsError(api.MaxSteelHardness, p.Hard))
		if e != api.OK {
			return i, e
		}
	}
	return 0, kelvinError(o.Edge)
}

// BandsOf are the bands of all cells.
func BandsOf(o api.RecipeOrder, ticks []api.RecipeTick) ([]api.Range, api.Errno) {
	x, e := outcomeFor(o, ticks)
	if e != api.OK {
		return nil, e
	}
	return x.bands, api.OK
}

// CriticalOf is the index of the first point that is not kept, or the number of points if only the edge is not.
func CriticalOf(o api.RecipeOrder, ticks []api.RecipeTick) (int, api.Errno) {
	x, e := outcomeFor(o, ticks)
	if e != api.OK {
		return 0, e
	}
	return orderOf(o).critical(x)
}

// BoundOf is the bound of an order with a power.
func BoundOf(o api.RecipeOrder, power int) (int, api.Errno) {
	if e := firstOf(orderError(o), rangeError(1, api.MaxHeatPower, power)); e != api.OK {
		return 0, e
	}
	return orderOf(o).bound(power)
}
