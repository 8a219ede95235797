// Package inspect is chapter 8: hardness, sections, samples and signals. See shared/doc/08-inspect.md.
package inspect

import "martensite/api"

// isDisturbed is whether an indent is not apart from the one before, or, if it is the first one, not far enough from the surface.
func isDisturbed(l []api.InspectIndent, i int) bool {
	x := l[i]
	if i == 0 {
		return 2*x.Depth < api.InspectEdge*x.Diagonal
	}
	before := l[i-1]
	return x.Depth-before.Depth < api.InspectApart*max(x.Diagonal, before.Diagonal)
}

// traverseError is the error of a traverse.
func traverseError(t api.InspectTraverse) api.Errno {
	_, e := CheckTraverse(t)
	return e
}

// curvesOf are the lower and the upper curve of a traverse.
func curvesOf(t api.InspectTraverse) (lower, upper curve) {
	lower = func(i int) (int, int) { return t.Indents[i].Depth, t.Indents[i].Hardness.Lo }
	upper = func(i int) (int, int) { return t.Indents[i].Depth, t.Indents[i].Hardness.Hi }
	return lower, upper
}

// CheckTraverse finds the error of a traverse, and the index of the indent that has it.
func CheckTraverse(t api.InspectTraverse) (int, api.Errno) {
	if e := countError(len(t.Indents), 2, api.MaxInspectIndents); e != api.OK {
		return 0, e
	}
	return firstError(t.Indents, func(i int, x api.InspectIndent) api.Errno {
		return firstOf(
			rangeError(1, api.MaxInspectDepth, x.Depth, x.Diagonal),
			rangeError(0, api.MaxInspectHardness, x.Hardness.Lo, x.Hardness.Hi),
			orderError(x.Hardness),
			errorIf(isDisturbed(t.Indents, i), api.ErrBusy))
	})
}

// HardnessAt is the numbers of both curves of a traverse at a depth.
func HardnessAt(t api.InspectTraverse, depth int) (api.Span, api.Errno) {
	if e := traverseError(t); e != api.OK {
		return api.Span{}, e
	}
	indents := len(t.Indents)
	if e := rangeError(t.Indents[0].Depth, t.Indents[indents-1].Depth, depth); e != api.OK {
		return api.Span{}, e
	}
	lower, upper := curvesOf(t)
	return api.Span{Lo: lower.at(depth, indents), Hi: upper.at(depth, indents)}, api.OK
}

// CaseOf is the case depth of a traverse for a limit.
func CaseOf(t api.InspectTraverse, limit int) (api.Span, api.Errno) {
	if e := firstOf(traverseError(t), rangeError(0, api.MaxInspectHardness, limit)); e != api.OK {
		return api.Span{}, e
	}
	if t.Indents[0].Hardness.Hi < limit {
		return api.Span{}, api.ErrNone
	}
	lower, upper := curvesOf(t)
	hi, ok := upper.fall(limit, len(t.Indents))
	if !ok {
		return api.Span{}, api.ErrOpen
	}
	// Where the upper curve is below the limit the lower one is, too, so that it falls as well.
	lo, _ := lower.fall(limit, len(t.Indents))
	return api.Span{Lo: lo, Hi: hi}, api.OK
}
