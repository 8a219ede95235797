package record

import (
	"slices"

	"martensite/api"
	"martensite/inspect"
	"martensite/monitor"
)

// start puts a new part under the coil.
func (h *house) start(w words) api.Errno {
	v, isVersion := h.newest(w.recipe)
	c := h.coilOf(w.coil)
	e := firstOf(
		rangeError(0, api.MaxMonitorNumber, w.number),
		errorIf(h.partOf(w.number) != nil, api.ErrExists),
		errorIf(!isVersion || c == nil, api.ErrMissing),
		errorIf(h.underCoil() != nil, api.ErrBusy),
		errorIf(c != nil && c.Shots >= c.Life, api.ErrBreak),
		errorIf(len(h.parts) >= api.MaxRecordParts, api.ErrFull))
	if e != api.OK {
		return e
	}
	p := &part{history: []int{v.entry, c.entry}}
	slices.Sort(p.history)
	p.Number, p.RecordVersion, p.Coil = w.number, v.RecordVersion, c.Name
	h.concerns(p)
	h.parts = append(h.parts, p)
	c.Shots++
	return api.OK
}

// frame adds a frame to the part under the coil, unless it has it already.
func (h *house) frame(w words) api.Errno {
	p := h.underCoil()
	if p == nil {
		return api.ErrNone
	}
	f, e := monitor.ParseFrame(w.rest)
	if e = firstOf(e, monitor.CheckFrame(h.plan, f)); e != api.OK {
		return e
	}
	i := slices.IndexFunc(p.Frames, func(g api.MonitorFrame) bool { return g.Tick == f.Tick })
	switch {
	case i < 0:
		p.Frames = append(p.Frames, f)
	case !slices.Equal(p.Frames[i].Values, f.Values):
		return api.ErrClash
	}
	h.concerns(p)
	return api.OK
}

// judge gives a part its verdict.
func (h *house) judge(p *part) {
	switch {
	case h.envelope.Parts > 0:
		r, _ := h.recordOf(*p)
		p.Judged = true
		p.Verdict, _ = monitor.VerdictOf(h.plan, h.envelope, r)
	case h.isWhole(*p):
		p.Verdict = api.MonitorGood
	default:
		p.Verdict = api.MonitorLost
	}
}

// end takes the part from under the coil.
func (h *house) end(words) api.Errno {
	p := h.underCoil()
	if p == nil {
		return api.ErrNone
	}
	p.Place = api.RecordInside
	h.judge(p)
	h.concerns(p)
	return api.OK
}

// good lets a part leave by the good chute.
func (h *house) good(w words) api.Errno {
	p := h.partOf(w.number)
	switch {
	case p == nil:
		return api.ErrMissing
	case !p.mayLeave():
		return api.ErrRefused
	}
	p.Place = api.RecordGood
	h.concerns(p)
	return api.OK
}

// bad lets a part leave by the bad chute.
func (h *house) bad(w words) api.Errno {
	p := h.partOf(w.number)
	switch {
	case p == nil:
		return api.ErrMissing
	case p.Place != api.RecordInside:
		return api.ErrState
	}
	p.Place = api.RecordBad
	h.concerns(p)
	return api.OK
}

// mark marks a part.
func (h *house) mark(w words) api.Errno {
	p := h.partOf(w.number)
	switch {
	case p == nil:
		return api.ErrMissing
	case !p.isHere() || p.Marked:
		return api.ErrState
	}
	p.Marked = true
	h.concerns(p)
	return api.OK
}

// section cuts a part and measures its case depth; if this may lie outside of its range all parts that are here and were made like this one are marked.
func (h *house) section(w words) api.Errno {
	p := h.partOf(w.number)
	switch {
	case p == nil:
		return api.ErrMissing
	case p.Place != api.RecordInside:
		return api.ErrState
	}
	t, e := inspect.ParseTraverse(w.rest)
	if e != api.OK {
		return e
	}
	depth, e := inspect.CaseOf(t, h.Limit)
	if e != api.OK {
		return e
	}
	p.Place, p.Depth = api.RecordCut, depth
	h.concerns(p)
	if h.isOutside(depth) {
		h.markAll(p.RecordVersion)
	}
	return api.OK
}

// markAll marks all parts of a version that are here.
func (h *house) markAll(v api.RecordVersion) {
	for _, p := range h.parts {
		if p.RecordVersion == v && p.isHere() {
			p.Marked = true
			h.concerns(p)
		}
	}
}

// model makes a part a model.
func (h *house) model(w words) api.Errno {
	p := h.partOf(w.number)
	switch {
	case p == nil:
		return api.ErrMissing
	case p.Place == api.RecordUnder:
		return api.ErrState
	case !h.isWhole(*p):
		return api.ErrGap
	case slices.Contains(h.models, w.number):
		return api.ErrDouble
	}
	h.models = append(h.models, w.number)
	h.concerns(p)
	return api.OK
}
