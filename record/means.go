package record

import (
	"martensite/api"
	"martensite/monitor"
	"martensite/recipe"
)

// note does nothing.
func (h *house) note(words) api.Errno { return api.OK }

// newCoil makes a coil without shots.
func (h *house) newCoil(w words) api.Errno {
	e := firstOf(
		nameError(w.coil),
		errorIf(h.coilOf(w.coil) != nil, api.ErrExists),
		rangeError(1, api.MaxRecordLife, w.number),
		errorIf(len(h.coils) >= api.MaxRecordCoils, api.ErrFull))
	if e != api.OK {
		return e
	}
	c := api.RecordCoil{Name: w.coil, Life: w.number}
	h.coils = append(h.coils, &coil{c, len(h.log)})
	return api.OK
}

// repair takes all shots from a coil.
func (h *house) repair(w words) api.Errno {
	c := h.coilOf(w.coil)
	if c == nil {
		return api.ErrMissing
	}
	if p := h.underCoil(); p != nil && p.Coil == c.Name {
		return api.ErrBusy
	}
	c.Shots = 0
	return api.OK
}

// newVersion makes a new version of a recipe.
func (h *house) newVersion(w words) api.Errno {
	phases, e := recipe.ParseRecipe(w.rest)
	e = firstOf(
		nameError(w.recipe),
		e,
		errorIf(len(h.versions) >= api.MaxRecordRecipes, api.ErrFull))
	if e != api.OK {
		return e
	}
	before, _ := h.newest(w.recipe)
	v := version{entry: len(h.log)}
	v.Recipe, v.Version, v.Phases = w.recipe, before.Version+1, phases
	h.versions = append(h.versions, v)
	return api.OK
}

// learn makes the envelope of all models.
func (h *house) learn(w words) api.Errno {
	var records []api.MonitorRecord
	for _, number := range h.models {
		r, e := h.recordOf(*h.partOf(number))
		if e != api.OK {
			return e
		}
		records = append(records, r)
	}
	x, e := monitor.EnvelopeOf(h.plan, records, w.number)
	if e != api.OK {
		return e
	}
	h.envelope = x
	return api.OK
}
