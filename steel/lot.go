package steel

import "martensite/api"

// perKelvin is how many parts of a weight lower the start of martensite by a kelvin.
const perKelvin = 1000

// evidenceError is the error of evidence.
func evidenceError(l []api.SteelEvidence) api.Errno {
	nameError := namesError()
	_, wrong := firstError(l, func(x api.SteelEvidence) api.Errno {
		return firstOf(nameError(x.Name), endsError(0, api.MaxSteelKelvin, x.Start))
	})
	return firstOf(
		errorIf(len(l) == 0, api.ErrShape),
		errorIf(len(l) > api.MaxSteelEvidence, api.ErrLarge),
		wrong)
}

// apart is whether two ranges have no number in common.
func apart(a, b api.Range) bool { return a.Lo > b.Hi || b.Lo > a.Hi }

// CheckAnalysis finds the error of an analysis, and the index of the element that has it.
func CheckAnalysis(a api.SteelAnalysis) (int, api.Errno) {
	nameError := namesError()
	i, wrong := firstError(a.Elements, func(x api.SteelElement) api.Errno {
		return firstOf(
			nameError(x.Name),
			rangeError(0, api.MaxSteelAmount, x.Amount.Lo, x.Amount.Hi),
			rangeError(0, api.MaxSteelWeight, x.Weight),
			errorIf(x.Amount.Lo > x.Amount.Hi, api.ErrOrder))
	})
	return firstFault(
		fault{e: kelvinError(a.Start)},
		fault{e: errorIf(len(a.Elements) > api.MaxSteelElements, api.ErrLarge)},
		fault{i, wrong})
}

// StartOf is the start of martensite of an analysis.
func StartOf(a api.SteelAnalysis) (api.Range, api.Errno) {
	if _, e := CheckAnalysis(a); e != api.OK {
		return api.Range{}, e
	}
	least, most := 0, 0
	for _, x := range a.Elements {
		least += x.Amount.Lo * x.Weight
		most += x.Amount.Hi * x.Weight
	}
	// What is subtracted is rounded the other way.
	return api.Range{Lo: a.Start - (most+perKelvin-1)/perKelvin, Hi: a.Start - least/perKelvin}, api.OK
}

// AgreedOf is the agreed range of evidence. Ranges that have a number in common by twos have one all together.
func AgreedOf(l []api.SteelEvidence) (api.Range, api.Errno) {
	if e := evidenceError(l); e != api.OK {
		return api.Range{}, e
	}
	agreed := l[0].Start
	for _, x := range l {
		agreed = api.Range{Lo: max(agreed.Lo, x.Start.Lo), Hi: min(agreed.Hi, x.Start.Hi)}
	}
	if agreed.Lo > agreed.Hi {
		return api.Range{}, api.ErrClash
	}
	return agreed, api.OK
}

// Contradicting are the names of the first two that have no number in common.
func Contradicting(l []api.SteelEvidence) ([2]string, api.Errno) {
	if e := evidenceError(l); e != api.OK {
		return [2]string{}, e
	}
	for i, a := range l {
		for _, b := range l[i+1:] {
			if apart(a.Start, b.Start) {
				return [2]string{a.Name, b.Name}, api.OK
			}
		}
	}
	return [2]string{}, api.ErrNone
}
