package inspect

import "martensite/api"

// isAfter is whether a knot may follow another one.
func isAfter(x, before api.InspectKnot) bool {
	return x.From > before.From && x.To.Lo >= before.To.Lo && x.To.Hi >= before.To.Hi
}

// tableError is the error of a table.
func tableError(x api.InspectTable) api.Errno {
	_, e := CheckTable(x)
	return e
}

// missingError is ErrMissing if an end of a range is not in a table.
func missingError(x api.InspectTable, r api.Range) api.Errno {
	first, last := x.Knots[0].From, x.Knots[len(x.Knots)-1].From
	return errorIf(rangeError(first, last, r.Lo, r.Hi) != api.OK, api.ErrMissing)
}

// converted is what a table makes of a range whose ends are in it.
func converted(x api.InspectTable, r api.Range) api.Range {
	var lower, upper curve
	lower = func(i int) (int, int) { return x.Knots[i].From, x.Knots[i].To.Lo }
	upper = func(i int) (int, int) { return x.Knots[i].From, x.Knots[i].To.Hi }
	return api.Range{
		Lo: floor(lower.at(r.Lo, len(x.Knots))),
		Hi: ceiling(upper.at(r.Hi, len(x.Knots))),
	}
}

// CheckTable finds the error of a table, and the index of the knot that has it.
func CheckTable(x api.InspectTable) (int, api.Errno) {
	if e := countError(len(x.Knots), 2, api.MaxInspectKnots); e != api.OK {
		return 0, e
	}
	return firstError(x.Knots, func(i int, k api.InspectKnot) api.Errno {
		return firstOf(
			rangeError(0, api.MaxInspectHardness, k.From, k.To.Lo, k.To.Hi),
			orderError(k.To),
			errorIf(i > 0 && !isAfter(k, x.Knots[i-1]), api.ErrOrder))
	})
}

// Converted is the range that a table makes of a range.
func Converted(x api.InspectTable, r api.Range) (api.Range, api.Errno) {
	if e := firstOf(tableError(x), endsError(r)); e != api.OK {
		return api.Range{}, e
	}
	if e := missingError(x, r); e != api.OK {
		return api.Range{}, e
	}
	return converted(x, r), api.OK
}

// ConvertedTraverse is a traverse whose hardness is converted; or the index of the first indent whose hardness is not in the table.
func ConvertedTraverse(x api.InspectTable, t api.InspectTraverse) (api.InspectTraverse, int, api.Errno) {
	if e := firstOf(tableError(x), traverseError(t)); e != api.OK {
		return api.InspectTraverse{}, 0, e
	}
	i, e := firstError(t.Indents, func(_ int, y api.InspectIndent) api.Errno {
		return missingError(x, y.Hardness)
	})
	if e != api.OK {
		return api.InspectTraverse{}, i, e
	}
	var made api.InspectTraverse
	for _, y := range t.Indents {
		y.Hardness = converted(x, y.Hardness)
		made.Indents = append(made.Indents, y)
	}
	return made, 0, api.OK
}
