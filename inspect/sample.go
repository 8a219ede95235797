package inspect

import "martensite/api"

// lotError is the error of the number of parts of a lot.
func lotError(lot int) api.Errno { return rangeError(1, api.MaxInspectLot, lot) }

// badError is the error of the bad parts of a lot.
func badError(lot, bad int) api.Errno { return rangeError(0, lot, bad) }

// planError is the error of a plan.
func planError(p api.InspectPlan) api.Errno {
	return firstOf(
		lotError(p.Lot),
		rangeError(1, p.Lot, p.Sample),
		rangeError(0, p.Sample, p.Accept))
}

// acceptance is the acceptance of a plan for a number of bad parts.
func acceptance(p api.InspectPlan, bad int) api.Frac {
	accepted := 0
	for found := range p.Accept + 1 {
		accepted += chosen(bad, found) * chosen(p.Lot-bad, p.Sample-found)
	}
	return lowest(accepted, chosen(p.Lot, p.Sample))
}

// AcceptanceOf is the acceptance of a plan for a number of bad parts.
func AcceptanceOf(p api.InspectPlan, bad int) (api.Frac, api.Errno) {
	if e := firstOf(planError(p), badError(p.Lot, bad)); e != api.OK {
		return api.Frac{}, e
	}
	return acceptance(p, bad), api.OK
}

// CurveOf is the curve of a plan.
func CurveOf(p api.InspectPlan) ([]api.Frac, api.Errno) {
	if e := planError(p); e != api.OK {
		return nil, e
	}
	var l []api.Frac
	for bad := range p.Lot + 1 {
		l = append(l, acceptance(p, bad))
	}
	return l, api.OK
}

// SampleFor is the sample for a lot, a number of bad parts and a risk.
func SampleFor(lot, bad, risk int) (int, api.Errno) {
	if e := firstOf(lotError(lot), badError(lot, bad), riskError(risk)); e != api.OK {
		return 0, e
	}
	for sample := 1; sample <= lot; sample++ {
		f := acceptance(api.InspectPlan{Lot: lot, Sample: sample}, bad)
		if api.InspectThousand*f.Num <= risk*f.Den {
			return sample, api.OK
		}
	}
	return 0, api.ErrNone
}
