package steel

import "martensite/api"

// upper is the part of a steel that has the upper ends of ranges.
const upper = api.SteelPart

// numbersOf are the numbers of a state, in the order of the type.
func numbersOf(s *api.SteelState) [7]*int {
	return [7]*int{&s.Parent, &s.Austenite, &s.Bainite, &s.Martensite, &s.Wait, &s.Grain, &s.Temper}
}

// limitsOf are the maxima of the numbers of a state.
func limitsOf() [7]int {
	const whole = api.SteelWhole
	return [7]int{whole, whole, whole, whole, whole, api.MaxSteelGrain, api.MaxSteelTemper}
}

// sharesOf are the shares of a state.
func sharesOf(s api.SteelState) [4]int {
	return [4]int{s.Parent, s.Austenite, s.Bainite, s.Martensite}
}

// run is the state after all temperatures of a curve.
func (r rules) run(s api.SteelState, curve []int, p api.SteelPick) api.SteelState {
	for _, kelvin := range curve {
		for _, d := range r.deedsAt(r.placeAt(kelvin)) {
			s = d.state(s, p)
		}
	}
	return s
}

// hardness is the hardness of shares with a tempering.
func (r rules) hardness(shares [4]int, temper int) int {
	hard := r.Hard
	hard[3] = max(hard[3]-temper, hard[2])
	sum := 0
	for i, share := range shares {
		sum += share * hard[i]
	}
	return sum / api.SteelWhole
}

// CheckState is the error of a state.
func CheckState(s api.SteelState) api.Errno {
	limits := limitsOf()
	for i, n := range numbersOf(&s) {
		if e := rangeError(0, limits[i], *n); e != api.OK {
			return e
		}
	}
	sum := s.Parent + s.Austenite + s.Bainite + s.Martensite
	return errorIf(sum != api.SteelWhole, api.ErrForm)
}

// CheckPick is the error of a steel.
func CheckPick(p api.SteelPick) api.Errno {
	return rangeError(0, api.SteelPart, p.Heat, p.Cool, p.Cold)
}

// Stepped is the state after a step.
func Stepped(r api.SteelRules, s api.SteelState, x api.SteelTick) (api.SteelState, api.Errno) {
	return RunOf(r, s, api.SteelRun{Curve: []int{x.Kelvin}, Pick: x.Pick})
}

// RunOf is the state after all temperatures of a curve.
func RunOf(r api.SteelRules, s api.SteelState, x api.SteelRun) (api.SteelState, api.Errno) {
	e := firstOf(
		rulesError(r),
		CheckState(s),
		curveError(x.Curve, kelvinError),
		CheckPick(x.Pick))
	if e != api.OK {
		return api.SteelState{}, e
	}
	return rules{r}.run(s, x.Curve, x.Pick), api.OK
}

// HardnessOf is the hardness of a state.
func HardnessOf(r api.SteelRules, s api.SteelState) (int, api.Errno) {
	if e := firstOf(rulesError(r), CheckState(s)); e != api.OK {
		return 0, e
	}
	return rules{r}.hardness(sharesOf(s), s.Temper), api.OK
}

// IncubationOf is the incubation of a curve, which does not depend on shares.
func IncubationOf(r api.SteelRules, curve []int) (int, api.Errno) {
	s, e := RunOf(r, api.SteelState{Parent: api.SteelWhole}, api.SteelRun{Curve: curve, Pick: api.SteelPick{Cool: upper}})
	return s.Wait, e
}

// GrainsOf is the grain after a curve for the fastest steel.
func GrainsOf(r api.SteelRules, s api.SteelState, curve []int) (int, api.Errno) {
	after, e := RunOf(r, s, api.SteelRun{Curve: curve, Pick: api.SteelPick{Heat: upper, Cool: upper, Cold: upper}})
	return after.Grain, e
}
