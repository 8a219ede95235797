package record

import (
	"slices"

	"martensite/api"
)

// state is the state of a house.
func (h *house) state() api.RecordState {
	s := api.RecordState{Models: h.models, Envelope: h.envelope}
	for _, v := range h.versions {
		s.Recipes = append(s.Recipes, v.RecordRecipe)
	}
	for _, c := range h.coils {
		s.Coils = append(s.Coils, c.RecordCoil)
	}
	for _, p := range h.parts {
		s.Parts = append(s.Parts, p.RecordPart)
	}
	return s
}

// numbers are the numbers of all parts of which something holds.
func (h *house) numbers(holds func(part) bool) []int {
	var numbers []int
	for _, p := range h.parts {
		if holds(*p) {
			numbers = append(numbers, p.Number)
		}
	}
	return numbers
}

// asked is the part with a number that is asked for.
func (h *house) asked(number int) (*part, api.Errno) {
	if e := rangeError(0, api.MaxMonitorNumber, number); e != api.OK {
		return nil, e
	}
	p := h.partOf(number)
	return p, errorIf(p == nil, api.ErrMissing)
}

// askedIn is the part with a number that is asked for in a log.
func askedIn(n api.RecordNet, l []api.RecordEntry, number int) (*part, api.Errno) {
	h, e := houseOf(n, l)
	if e != api.OK {
		return nil, e
	}
	return h.asked(number)
}

// CheckLog finds the error of a log, and the index of the entry that has it.
func CheckLog(n api.RecordNet, l []api.RecordEntry) (int, api.Errno) {
	_, i, e := houseWith(n, l)
	return i, e
}

// Appended is a log with a further entry.
func Appended(n api.RecordNet, l []api.RecordEntry, e api.RecordEntry) ([]api.RecordEntry, api.Errno) {
	h, err := houseOf(n, l)
	if err != api.OK {
		return nil, err
	}
	if err := h.enter(e); err != api.OK {
		return nil, err
	}
	return h.log, api.OK
}

// StateOf is the state after a log.
func StateOf(n api.RecordNet, l []api.RecordEntry) (api.RecordState, api.Errno) {
	h, e := houseOf(n, l)
	if e != api.OK {
		return api.RecordState{}, e
	}
	return h.state(), api.OK
}

// StateAt is the state after all entries of a log whose time is at most this one.
func StateAt(n api.RecordNet, l []api.RecordEntry, at int) (api.RecordState, api.Errno) {
	_, e := houseOf(n, l)
	if e = firstOf(e, rangeError(0, api.MaxTick, at)); e != api.OK {
		return api.RecordState{}, e
	}
	isLater := func(x api.RecordEntry) bool { return x.At > at }
	if i := slices.IndexFunc(l, isLater); i >= 0 {
		l = l[:i]
	}
	return StateOf(n, l)
}

// PartOf is a part of a log.
func PartOf(n api.RecordNet, l []api.RecordEntry, number int) (api.RecordPart, api.Errno) {
	p, e := askedIn(n, l, number)
	if e != api.OK {
		return api.RecordPart{}, e
	}
	return p.RecordPart, api.OK
}

// HistoryOf are the indexes of all entries that concern a part.
func HistoryOf(n api.RecordNet, l []api.RecordEntry, number int) ([]int, api.Errno) {
	p, e := askedIn(n, l, number)
	if e != api.OK {
		return nil, e
	}
	return p.history, api.OK
}

// PartsOf are the numbers of all parts of a version of a recipe.
func PartsOf(n api.RecordNet, l []api.RecordEntry, x api.RecordVersion) ([]int, api.Errno) {
	h, e := houseOf(n, l)
	if e != api.OK {
		return nil, e
	}
	isIt := func(v version) bool { return v.RecordVersion == x }
	if !slices.ContainsFunc(h.versions, isIt) {
		return nil, api.ErrMissing
	}
	return h.numbers(func(p part) bool { return p.RecordVersion == x }), api.OK
}

// CountsOf is how many parts of a log were started, and how many have each place.
func CountsOf(n api.RecordNet, l []api.RecordEntry) (api.RecordCounts, api.Errno) {
	h, e := houseOf(n, l)
	if e != api.OK {
		return api.RecordCounts{}, e
	}
	var places [api.RecordCut + 1]int
	for _, p := range h.parts {
		places[p.Place]++
	}
	return api.RecordCounts{
		Started: len(h.parts),
		Under:   places[api.RecordUnder],
		Inside:  places[api.RecordInside],
		Good:    places[api.RecordGood],
		Bad:     places[api.RecordBad],
		Cut:     places[api.RecordCut],
	}, api.OK
}

// MayLeave is whether a part may leave by the good chute after a log.
func MayLeave(n api.RecordNet, l []api.RecordEntry, number int) (bool, api.Errno) {
	p, e := askedIn(n, l, number)
	if e != api.OK {
		return false, e
	}
	return p.mayLeave(), api.OK
}
