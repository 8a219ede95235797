package inspect

import "martensite/api"

// chosen is in how many ways so many of n things are chosen; n is at most MaxInspectLot.
func chosen(n, count int) int {
	ways := 1
	for i := range count {
		ways = ways * (n - i) / (i + 1)
	}
	return ways
}

// power is a power of a number.
func power(base, exponent int) int {
	n := 1
	for range exponent {
		n *= base
	}
	return n
}

// studyError is the error of a study.
func studyError(trials, hits int) api.Errno {
	return firstOf(
		rangeError(1, api.MaxInspectTrials, trials),
		rangeError(0, trials, hits))
}

// ways is the ways of a study with a share.
func ways(trials, hits, tenths int) int {
	sum := 0
	for n := hits; n <= trials; n++ {
		sum += chosen(trials, n) * power(tenths, n) * power(api.InspectTenths-tenths, trials-n)
	}
	return sum
}

// WaysOf is the ways of so many trials and hits with a share.
func WaysOf(trials, hits, tenths int) (int, api.Errno) {
	if e := firstOf(studyError(trials, hits), rangeError(0, api.InspectTenths, tenths)); e != api.OK {
		return 0, e
	}
	return ways(trials, hits, tenths), api.OK
}

// LowerShare is the lower share of a study for a risk.
func LowerShare(trials, hits, risk int) (int, api.Errno) {
	if e := firstOf(studyError(trials, hits), riskError(risk)); e != api.OK {
		return 0, e
	}
	most := risk * power(api.InspectTenths, trials)
	for tenths := api.InspectTenths; tenths >= 0; tenths-- {
		if api.InspectThousand*ways(trials, hits, tenths) <= most {
			return tenths, api.OK
		}
	}
	return 0, api.ErrNone
}
