// Package heat is chapter 3: heat in a part, and in the cooling water. See shared/doc/03-heat.md.
package heat

import (
	"slices"

	"martensite/api"
)

// part is a set-up, with its table and its laws as polylines.
type part struct {
	api.HeatSetup
	table  polyline
	losses []polyline
}

// partOf is the part of a set-up.
func partOf(s api.HeatSetup) part {
	p := part{HeatSetup: s, table: lineOf(s.Table, func(k api.HeatKnot) corner { return corner{k.Energy, k.Kelvin} })}
	for _, law := range s.Laws {
		p.losses = append(p.losses, lossLine(law))
	}
	return p
}

// lossLine is a law as a polyline.
func lossLine(law []api.HeatPoint) polyline {
	return lineOf(law, func(x api.HeatPoint) corner { return corner{x.Kelvin, x.Loss} })
}

// knotError is the error of a knot of a table.
func knotError(table []api.HeatKnot, i int) api.Errno {
	f := firstOf(rangeError(0, api.MaxHeatEnergy, table[i].Energy), kelvinError(table[i].Kelvin))
	if f != api.OK || i == 0 {
		return f
	}
	energy, kelvin := table[i].Energy-table[i-1].Energy, table[i].Kelvin-table[i-1].Kelvin
	return firstOf(
		errorIf(energy <= 0 || kelvin <= 0, api.ErrOrder),
		errorIf(kelvin > energy, api.ErrBreak))
}

// pointError is the error of a point of a law.
func pointError(law []api.HeatPoint, i int) api.Errno {
	f := firstOf(kelvinError(law[i].Kelvin), rangeError(0, api.MaxHeatLoss, law[i].Loss))
	if f != api.OK || i == 0 {
		return f
	}
	kelvin, loss := law[i].Kelvin-law[i-1].Kelvin, law[i].Loss-law[i-1].Loss
	return firstOf(
		errorIf(kelvin <= 0 || loss < 0, api.ErrOrder),
		errorIf(2*loss > kelvin, api.ErrBreak))
}

// lawFault is the error of one of the laws, of which those before it have none.
func lawFault(laws [][]api.HeatPoint, i int) api.Errno {
	if len(laws[i]) > api.MaxHeatPoints {
		return api.ErrLarge
	}
	for k := range laws[i] {
		if f := pointError(laws[i], k); f != api.OK {
			return f
		}
	}
	if i == 0 {
		return api.OK
	}
	return errorIf(lossLine(laws[i]).below(lossLine(laws[i-1])), api.ErrClash)
}

// setupError is the error of a set-up.
func setupError(s api.HeatSetup) api.Errno {
	_, f := CheckSetup(s)
	return f
}

// leaves is whether an energy is not in the table.
func (p part) leaves(energy int) bool { return !p.table.covers(energy) }

// energyError is ErrRange if an energy is not in the table.
func (p part) energyError(energy int) api.Errno {
	return errorIf(p.leaves(energy), api.ErrRange)
}

// stateError finds the error of a state of a valid part, and the index of the cell that has it.
func (p part) stateError(e []int) (int, api.Errno) {
	if len(e) != p.Cells {
		return 0, api.ErrShape
	}
	if i := slices.IndexFunc(e, p.leaves); i >= 0 {
		return i, api.ErrRange
	}
	return 0, api.OK
}

// CheckSetup finds the error of a set-up, and the index of the knot or of the law that has it.
func CheckSetup(s api.HeatSetup) (int, api.Errno) {
	f := firstOf(
		rangeError(1, api.MaxHeatCells, s.Cells),
		rangeError(0, api.MaxHeatExchange, s.Exchange),
		errorIf(len(s.Table) < 2, api.ErrShape),
		errorIf(len(s.Table) > api.MaxHeatKnots, api.ErrLarge))
	if f != api.OK {
		return 0, f
	}
	for i := range s.Table {
		if f := knotError(s.Table, i); f != api.OK {
			return i, f
		}
	}
	if len(s.Laws) > api.MaxHeatLaws {
		return 0, api.ErrLarge
	}
	for i := range s.Laws {
		if f := lawFault(s.Laws, i); f != api.OK {
			return i, f
		}
	}
	return 0, api.OK
}

// CheckState finds the error of a state of a set-up, and the index of the cell that has it.
func CheckState(s api.HeatSetup, e []int) (int, api.Errno) {
	if f := setupError(s); f != api.OK {
		return 0, f
	}
	return partOf(s).stateError(e)
}
