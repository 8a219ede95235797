package heat

import "martensite/api"

// bounds is the courses of both ends of a box. Neither end needs the other one.
type bounds struct{ lo, hi course }

// spanError is the error of a span.
func spanError(s api.HeatSetup, d api.HeatSpan) api.Errno {
	return firstOf(
		errorIf(len(d.Powers) != s.Cells, api.ErrShape),
		rangesError(api.MaxHeatPower, d.Powers),
		lawError(s, d.Laws.Lo, d.Laws.Hi),
		orderError(d.Laws))
}

// spansError is the error of spans.
func spansError(s api.HeatSetup, l []api.HeatSpan) api.Errno {
	if f := ticksError(len(l)); f != api.OK {
		return f
	}
	for _, d := range l {
		if f := spanError(s, d); f != api.OK {
			return f
		}
	}
	return api.OK
}

// drivesOf are the drives of both ends of a box: the greater loss goes with the smaller powers.
func drivesOf(l []api.HeatSpan) (lower, upper []api.HeatDrive) {
	for _, span := range l {
		least, most := api.HeatDrive{Law: span.Laws.Hi}, api.HeatDrive{Law: span.Laws.Lo}
		for _, r := range span.Powers {
			least.Powers = append(least.Powers, r.Lo)
			most.Powers = append(most.Powers, r.Hi)
		}
		lower, upper = append(lower, least), append(upper, most)
	}
	return lower, upper
}

// boundsOf are the courses of both ends of a box.
func (p part) boundsOf(b api.HeatBox, l []api.HeatSpan) bounds {
	lower, upper := drivesOf(l)
	return bounds{p.courseOf(b.Lo, lower), p.courseOf(b.Hi, upper)}
}

// broken is whether a step of an end leaves the table.
func (b bounds) broken() bool { return b.lo.broken || b.hi.broken }

// boxes are the boxes after all steps, before the first one that leaves the table.
func (b bounds) boxes() []api.HeatBox {
	var l []api.HeatBox
	for k := range min(len(b.lo.states), len(b.hi.states)) {
		l = append(l, api.HeatBox{Lo: b.lo.states[k], Hi: b.hi.states[k]})
	}
	return l
}

// boxError is the error of a box.
func boxError(s api.HeatSetup, b api.HeatBox) api.Errno {
	_, f := CheckBox(s, b)
	return f
}

// CheckBox finds the error of a box, and the index of the cell that has it.
func CheckBox(s api.HeatSetup, b api.HeatBox) (int, api.Errno) {
	for _, e := range [][]int{b.Lo, b.Hi} {
		if i, f := CheckState(s, e); f != api.OK {
			return i, f
		}
	}
	for i := range b.Lo {
		if b.Lo[i] > b.Hi[i] {
			return i, api.ErrOrder
		}
	}
	return 0, api.OK
}

// BoxStep is the step of a box.
func BoxStep(s api.HeatSetup, b api.HeatBox, d api.HeatSpan) (api.HeatBox, api.Errno) {
	l, f := BoxRun(s, b, []api.HeatSpan{d})
	if f != api.OK {
		return api.HeatBox{}, f
	}
	return l[0], api.OK
}

// BoxRun are the boxes after all steps.
func BoxRun(s api.HeatSetup, b api.HeatBox, l []api.HeatSpan) ([]api.HeatBox, api.Errno) {
	if f := firstOf(boxError(s, b), spansError(s, l)); f != api.OK {
		return nil, f
	}
	ends := partOf(s).boundsOf(b, l)
	if ends.broken() {
		return nil, api.ErrBreak
	}
	return ends.boxes(), api.OK
}
