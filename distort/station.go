package distort

import "martensite/api"

// sectionError is the error of a section.
func sectionError(_ int, x api.DistortSection) api.Errno {
	return firstOf(
		rangeError(0, api.MaxDistortLength, x.Length),
		endsError(-api.MaxDistortStrain, api.MaxDistortStrain, x.Strain))
}

// stationsError is the error of stations.
func stationsError(l []api.DistortStation) api.Errno {
	e := firstOf(
		errorIf(len(l) < 2, api.ErrShape),
		errorIf(len(l) > api.MaxDistortList, api.ErrLarge))
	if e != api.OK {
		return e
	}
	_, e = firstError(l, func(i int, x api.DistortStation) api.Errno {
		return firstOf(
			rangeError(0, api.MaxDistortLength, x.At),
			sizeError(api.MaxDistortReading, x.X, x.Y),
			errorIf(i > 0 && x.At <= l[i-1].At, api.ErrOrder))
	})
	return e
}

// bowOf is the bow of a station between a first and a last one.
func bowOf(first, x, last api.DistortStation) api.DistortBow {
	length, part := last.At-first.At, x.At-first.At
	off := func(first, n, last int) api.Range {
		return rounded((n-first)*length-(last-first)*part, length)
	}
	return api.DistortBow{X: off(first.X, x.X, last.X), Y: off(first.Y, x.Y, last.Y)}
}

// GrowthOf is the growth of sections.
func GrowthOf(l []api.DistortSection) (api.Range, api.Errno) {
	if len(l) > api.MaxDistortList {
		return api.Range{}, api.ErrLarge
	}
	if _, e := firstError(l, sectionError); e != api.OK {
		return api.Range{}, e
	}
	var sum api.Range
	for _, x := range l {
		sum.Lo += x.Length * x.Strain.Lo
		sum.Hi += x.Length * x.Strain.Hi
	}
	return sum, api.OK
}

// RunOutOf is what follows from readings.
func RunOutOf(readings [4]int) (api.DistortRunOut, api.Errno) {
	if e := sizeError(api.MaxDistortReading, readings[:]...); e != api.OK {
		return api.DistortRunOut{}, e
	}
	x, y := readings[0]-readings[2], readings[1]-readings[3]
	return api.DistortRunOut{
		X:    x,
		Y:    y,
		Oval: readings[0] + readings[2] - readings[1] - readings[3],
		// Both are at most 2 MaxDistortReading in size, so the root is less than 3 MaxDistortReading.
		RunOut: rootOf(x*x+y*y, 3*api.MaxDistortReading),
	}, api.OK
}

// BowsOf are the bows of all stations.
func BowsOf(l []api.DistortStation) ([]api.DistortBow, api.Errno) {
	if e := stationsError(l); e != api.OK {
		return nil, e
	}
	var bows []api.DistortBow
	for _, x := range l {
		bows = append(bows, bowOf(l[0], x, l[len(l)-1]))
	}
	return bows, api.OK
}
