package record

import (
	"slices"
	"strings"

	"martensite/api"
)

// version is a version of a recipe, and the index of the entry that made it.
type version struct {
	api.RecordRecipe
	entry int
}

// coil is a coil, and the index of the entry that made it.
type coil struct {
	api.RecordCoil
	entry int
}

// part is a part, and its history.
type part struct {
	api.RecordPart
	history []int
}

// isHere is whether a part is under the coil or inside.
func (p part) isHere() bool {
	return p.Place == api.RecordUnder || p.Place == api.RecordInside
}

// mayLeave is whether a part may leave by the good chute.
func (p part) mayLeave() bool {
	return p.Place == api.RecordInside && p.Judged && p.Verdict == api.MonitorGood && !p.Marked
}

// house is a shop, the entries that it has accepted, and what follows from them.
type house struct {
	shop
	log      []api.RecordEntry
	versions []version
	coils    []*coil
	parts    []*part
	models   []int
	envelope api.MonitorEnvelope
}

// partOf is the part with a number; nil if there is none.
func (h *house) partOf(number int) *part {
	for _, p := range h.parts {
		if p.Number == number {
			return p
		}
	}
	return nil
}

// underCoil is the part under the coil; nil if there is none.
func (h *house) underCoil() *part {
	for _, p := range h.parts {
		if p.Place == api.RecordUnder {
			return p
		}
	}
	return nil
}

// coilOf is the coil with a name; nil if there is none.
func (h *house) coilOf(name string) *coil {
	for _, c := range h.coils {
		if c.Name == name {
			return c
		}
	}
	return nil
}

// newest is the newest version of a recipe; false if there is none.
func (h *house) newest(recipe string) (version, bool) {
	for _, v := range slices.Backward(h.versions) {
		if v.Recipe == recipe {
			return v, true
		}
	}
	return version{}, false
}

// concerns adds the entry that is being entered to the history of a part.
func (h *house) concerns(p *part) { p.history = append(p.history, len(h.log)) }

// headError is the error of an entry but for what its text asks for.
func (h *house) headError(x api.RecordEntry) api.Errno {
	_, isPerson := h.person(x.By)
	before := 0
	if n := len(h.log); n > 0 {
		before = h.log[n-1].At
	}
	return firstOf(
		errorIf(len(h.log) >= api.MaxRecordEntries, api.ErrLarge),
		errorIf(!isPerson, api.ErrMissing),
		rangeError(0, api.MaxTick, x.At),
		errorIf(x.At < before, api.ErrOrder),
		bytesError(x.Text))
}

// enter accepts an entry; with an error nothing changes.
func (h *house) enter(x api.RecordEntry) api.Errno {
	if e := h.headError(x); e != api.OK {
		return e
	}
	word, _, _ := strings.Cut(x.Text, " ")
	f, ok := formOf(word)
	if !ok {
		return api.ErrSyntax
	}
	if by, _ := h.person(x.By); by.Role < f.role {
		return api.ErrAllowed
	}
	w, ok := wordsIn(x.Text, f.kinds)
	if !ok {
		return api.ErrSyntax
	}
	if e := f.do(h, w); e != api.OK {
		return e
	}
	h.log = append(h.log, x)
	return api.OK
}

// houseWith is the house of a net after a log; otherwise the index of the entry that has an error, and the error.
func houseWith(n api.RecordNet, l []api.RecordEntry) (*house, int, api.Errno) {
	s, _, e := shopOf(n)
	if e = firstOf(e, errorIf(len(l) > api.MaxRecordEntries, api.ErrLarge)); e != api.OK {
		return nil, 0, e
	}
	h := &house{shop: s}
	for i, x := range l {
		if e := h.enter(x); e != api.OK {
			return nil, i, e
		}
	}
	return h, 0, api.OK
}

// houseOf is the house of a net after a log.
func houseOf(n api.RecordNet, l []api.RecordEntry) (*house, api.Errno) {
	h, _, e := houseWith(n, l)
	return h, e
}
