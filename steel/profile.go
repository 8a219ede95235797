package steel

import (
	"slices"

	"martensite/api"
)

// pointsOf is a curve of temperatures, each as a range of one.
func pointsOf(curve []int) []api.Range {
	var l []api.Range
	for _, kelvin := range curve {
		l = append(l, api.Range{Lo: kelvin, Hi: kelvin})
	}
	return l
}

// cellsUpTo is the number of cells up to the first one whose band is soft.
func cellsUpTo(profile []api.Range, soft func(api.Range) bool) int {
	if i := slices.IndexFunc(profile, soft); i >= 0 {
		return i
	}
	return len(profile)
}

// ProfileOf are the bands of cells that begin in a box and follow curves.
func ProfileOf(r api.SteelRules, b api.SteelBox, curves [][]api.Range) ([]api.Range, api.Errno) {
	e := firstOf(
		rulesError(r),
		CheckBox(b),
		curvesError(curves, kelvinsError))
	if e != api.OK {
		return nil, e
	}
	var bands []api.Range
	for _, curve := range curves {
		bands = append(bands, rules{r}.band(rules{r}.boxRun(b, curve)))
	}
	return bands, api.OK
}

// CaseDepth is the case depth of a profile.
func CaseDepth(profile []api.Range, limit int) (api.Range, api.Errno) {
	_, wrong := firstError(profile, hardError)
	e := firstOf(
		errorIf(len(profile) > api.MaxSteelCurves, api.ErrLarge),
		wrong,
		rangeError(0, api.MaxSteelHardness, limit))
	if e != api.OK {
		return api.Range{}, e
	}
	return api.Range{
		Lo: cellsUpTo(profile, func(band api.Range) bool { return band.Lo < limit }),
		Hi: cellsUpTo(profile, func(band api.Range) bool { return band.Hi < limit }),
	}, api.OK
}

// CurvesFor are the indexes of all curves after which the hardness of a state surely is as wanted.
func CurvesFor(r api.SteelRules, s api.SteelState, x api.SteelWanted) ([]int, api.Errno) {
	e := firstOf(
		rulesError(r),
		CheckState(s),
		curvesError(x.Curves, kelvinError),
		hardError(x.Hard))
	if e != api.OK {
		return nil, e
	}
	var found []int
	for i, curve := range x.Curves {
		band := rules{r}.band(rules{r}.boxRun(boxOf(s), pointsOf(curve)))
		if x.Hard.Lo <= band.Lo && band.Hi <= x.Hard.Hi {
			found = append(found, i)
		}
	}
	return found, api.OK
}
