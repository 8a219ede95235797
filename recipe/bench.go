package recipe

import (
	"martensite/api"
	"martensite/heat"
)

// thousand is the parts of a power that weights count.
const thousand = 1000

// bench is a bench without an error.
type bench struct{ api.RecipeBench }

// middle is the weight of a cell of the nominal part.
func middle(weight api.Range) int { return (weight.Lo + weight.Hi) / 2 }

// part is what a cell with a weight gets of a power.
func part(power, weight int) int { return power * weight / thousand }

// lastLaw is the law with the greatest loss.
func (b bench) lastLaw() int { return len(b.Setup.Laws) - 1 }

// drive is what a tick does to a part whose cells have weights in the ranges of the bench.
func (b bench) drive(t api.RecipeTick, weightIn func(api.Range) int) api.HeatDrive {
	d := api.HeatDrive{Law: t.Law}
	for _, weight := range b.Weights {
		d.Powers = append(d.Powers, part(t.Power, weightIn(weight)))
	}
	return d
}

// span is the span of a tick.
func (b bench) span(t api.RecipeTick) api.HeatSpan {
	s := api.HeatSpan{Laws: api.Range{Lo: max(0, t.Law-b.Spread), Hi: min(b.lastLaw(), t.Law+b.Spread)}}
	for _, weight := range b.Weights {
		s.Powers = append(s.Powers, api.Range{Lo: part(t.Power, weight.Lo), Hi: part(t.Power, weight.Hi)})
	}
	return s
}

// spans are the spans of ticks.
func (b bench) spans(ticks []api.RecipeTick) []api.HeatSpan {
	var l []api.HeatSpan
	for _, t := range ticks {
		l = append(l, b.span(t))
	}
	return l
}

// kelvin is the temperature of an energy in the table.
func (b bench) kelvin(energy int) api.Frac {
	k, _ := heat.KelvinAt(b.Setup, energy)
	return k
}

// colder is whether the temperature of an energy is less than another one.
func (b bench) colder(energy, kelvin int) bool {
	k := b.kelvin(energy)
	return k.Num < kelvin*k.Den
}

// hotter is whether the temperature of an energy is greater than another one.
func (b bench) hotter(energy, kelvin int) bool {
	k := b.kelvin(energy)
	return k.Num > kelvin*k.Den
}

// kelvins is the range of whole temperatures around those of two energies.
func (b bench) kelvins(lo, hi int) api.Range {
	least, most := b.kelvin(lo), b.kelvin(hi)
	return api.Range{Lo: least.Num / least.Den, Hi: (most.Num + most.Den - 1) / most.Den}
}

// curves are the curves of all cells, or the error of a step that leaves the table.
func (b bench) curves(ticks []api.RecipeTick) ([][]api.Range, api.Errno) {
	boxes, e := heat.BoxRun(b.Setup, b.Start, b.spans(ticks))
	if e != api.OK {
		return nil, e
	}
	curves := make([][]api.Range, b.Setup.Cells)
	for _, box := range boxes {
		for i := range curves {
			curves[i] = append(curves[i], b.kelvins(box.Lo[i], box.Hi[i]))
		}
	}
	return curves, api.OK
}

// lawError is ErrMissing if a set-up does not have a law.
func lawError(s api.HeatSetup, law int) api.Errno {
	return errorIf(law < 0 || law >= len(s.Laws), api.ErrMissing)
}

// ticksError is the error of ticks for a bench.
func ticksError(b api.RecipeBench, ticks []api.RecipeTick) api.Errno {
	if len(ticks) > api.MaxRecipeTicks {
		return api.ErrLarge
	}
	for _, t := range ticks {
		e := firstOf(rangeError(0, api.MaxHeatPower, t.Power), lawError(b.Setup, t.Law))
		if e != api.OK {
			return e
		}
	}
	return api.OK
}

// benchError is the error of a bench.
func benchError(b api.RecipeBench) api.Errno {
	_, e := CheckBench(b)
	return e
}

// CheckBench finds the error of a bench, and the index of the weight that has it.
func CheckBench(b api.RecipeBench) (int, api.Errno) {
	_, wrongSetup := heat.CheckSetup(b.Setup)
	_, wrongStart := heat.CheckBox(b.Setup, b.Start)
	e := firstOf(wrongSetup, wrongStart, errorIf(len(b.Weights) != b.Setup.Cells, api.ErrShape))
	if e != api.OK {
		return 0, e
	}
	for i, weight := range b.Weights {
		if e := endsError(api.MaxRecipeWeight, weight); e != api.OK {
			return i, e
		}
	}
	return 0, firstOf(lawError(b.Setup, b.Air), rangeError(0, api.MaxHeatLaws, b.Spread))
}

// SpansOf are the spans of ticks.
func SpansOf(b api.RecipeBench, ticks []api.RecipeTick) ([]api.HeatSpan, api.Errno) {
	if e := firstOf(benchError(b), ticksError(b, ticks)); e != api.OK {
		return nil, e
	}
	return bench{b}.spans(ticks), api.OK
}

// CurvesOf are the curves of all cells.
func CurvesOf(b api.RecipeBench, ticks []api.RecipeTick) ([][]api.Range, api.Errno) {
	if e := firstOf(benchError(b), ticksError(b, ticks)); e != api.OK {
		return nil, e
	}
	return bench{b}.curves(ticks)
}
