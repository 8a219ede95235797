package steel_test

import (
	"math"
	"math/rand"
	"slices"
	"testing"

	"martensite/api"
	"martensite/steel"
)

// bad is rules with an error, and its index.
type bad struct {
	r     api.SteelRules
	index int
	e     api.Errno
}

// heats are the rules of the examples with other Heats, and so on for the other kinds.
func heats(l ...api.SteelHeat) api.SteelRules {
	return changed(func(r *api.SteelRules) { r.Heats = l })
}

func cools(l ...api.SteelCool) api.SteelRules {
	return changed(func(r *api.SteelRules) { r.Cools = l })
}

func colds(l ...api.SteelCold) api.SteelRules {
	return changed(func(r *api.SteelRules) { r.Colds = l })
}

func tempers(l ...api.SteelTemper) api.SteelRules {
	return changed(func(r *api.SteelRules) { r.Tempers = l })
}

func hard(a, b, c, d int) api.SteelRules {
	return changed(func(r *api.SteelRules) { r.Hard = [4]int{a, b, c, d} })
}

// crowd are rules with one knot too many of a kind, all of them wrong.
func crowd(kind int) api.SteelRules {
	r := api.SteelRules{Hard: [4]int{-1, 0, 0, 0}, Heats: []api.SteelHeat{heat(0, 2, 1, -1)}}
	n := api.MaxSteelKnots + 1
	switch kind {
	case 0:
		r.Heats = make([]api.SteelHeat, n)
	case 1:
		r.Cools = make([]api.SteelCool, n)
	case 2:
		r.Colds = make([]api.SteelCold, n)
	case 3:
		r.Tempers = make([]api.SteelTemper, n)
	}
	return r
}

// badHeats are rules with an error of Heats.
func badHeats() []bad {
	ok := heat(1000, 5, 5, 0)
	later := heats(heat(0, 0, 0, 0))
	later.Cools = []api.SteelCool{cool(0, span(2, 1), one(0))}
	return []bad{
		{later, 0, api.ErrRange},
		{heats(heat(-1, 0, 0, 0)), 0, api.ErrRange},
		{heats(heat(3001, 0, 0, 0)), 0, api.ErrRange},
		{heats(heat(math.MinInt, 0, 0, 0)), 0, api.ErrRange},
		{heats(heat(math.MaxInt, 0, 0, 0)), 0, api.ErrRange},
		{heats(heat(1000, -1, 0, 0)), 0, api.ErrRange},
		{heats(heat(1000, 0, whole+1, 0)), 0, api.ErrRange},
		{heats(heat(1000, whole+1, 0, 0)), 0, api.ErrRange},
		{heats(heat(1000, 0, -1, 0)), 0, api.ErrRange},
		{heats(heat(1000, 0, 0, -1)), 0, api.ErrRange},
		{heats(heat(1000, 2, 1, whole+1)), 0, api.ErrRange},
		{heats(ok, heat(900, 2, 1, math.MinInt)), 1, api.ErrRange},
		{heats(heat(1000, 2, 1, 0)), 0, api.ErrForm},
		{heats(ok, heat(900, 2, 1, 0)), 1, api.ErrForm},
		{heats(heat(1000, whole, 0, whole), heat(0, 0, 0, 0)), 0, api.ErrForm},
		{heats(ok, heat(1000, 6, 6, 0)), 1, api.ErrOrder},
		{heats(ok, heat(999, 6, 6, 0)), 1, api.ErrOrder},
		{heats(ok, heat(1001, 4, 5, 0)), 1, api.ErrOrder},
		{heats(ok, heat(1001, 4, 9, 0)), 1, api.ErrOrder},
		{heats(heat(1000, 0, 9, 0), heat(1001, 1, 8, 0), heat(0, 0, 0, 0)), 1, api.ErrOrder},
		{heats(ok, heat(1001, 5, 5, 0), heat(1002, 5, 4, 0)), 2, api.ErrForm},
		{heats(ok, heat(1001, 5, 6, 0), heat(1002, 5, 5, 0)), 2, api.ErrOrder},
	}
}

// badCools are rules with an error of Cools.
func badCools() []bad {
	ok := cool(600, one(7), one(7))
	later := cools(ok, cool(0, one(0), one(0)))
	later.Colds = []api.SteelCold{cold(0, 2, 1)}
	return []bad{
		{later, 1, api.ErrRange},
		{cools(cool(3001, one(0), one(0))), 0, api.ErrRange},
		{cools(cool(600, span(-1, 0), one(0))), 0, api.ErrRange},
		{cools(cool(600, span(0, whole+1), one(0))), 0, api.ErrRange},
		{cools(cool(600, one(0), span(-1, 0))), 0, api.ErrRange},
		{cools(cool(600, span(1, 0), span(0, whole+1))), 0, api.ErrRange},
		{cools(cool(600, span(1, 0), one(0))), 0, api.ErrForm},
		{cools(cool(600, one(0), span(1, 0))), 0, api.ErrForm},
		{cools(ok, cool(500, span(1, 0), one(0))), 1, api.ErrForm},
		{cools(ok, cool(600, one(7), one(7))), 1, api.ErrOrder},
		{cools(ok, cool(599, one(7), one(7))), 1, api.ErrOrder},
	}
}

// badColds are rules with an error of Colds, or of Tempers.
func badColds() []bad {
	ok := cold(300, 5, 9)
	later := colds(ok, cold(301, 6, 9))
	later.Tempers = []api.SteelTemper{temper(0, -1)}
	clash := tempers(temper(400, 1), temper(400, 2))
	clash.Heats = []api.SteelHeat{heat(1, 0, 0, 0)}
	return []bad{
		{later, 1, api.ErrOrder},
		{colds(cold(0, 0, 0)), 0, api.ErrRange},
		{colds(cold(300, -1, 0)), 0, api.ErrRange},
		{colds(cold(300, 0, whole+1)), 0, api.ErrRange},
		{colds(ok, cold(3001, 2, 1)), 1, api.ErrRange},
		{colds(ok, cold(200, 2, 1)), 1, api.ErrForm},
		{colds(ok, cold(300, 5, 9)), 1, api.ErrOrder},
		{colds(ok, cold(299, 5, 9)), 1, api.ErrOrder},
		{colds(ok, cold(301, 5, 10)), 1, api.ErrOrder},
		{colds(ok, cold(301, 4, 10)), 1, api.ErrOrder},
		{colds(ok, cold(301, 5, 9), cold(302, 6, 8)), 2, api.ErrOrder},
		{clash, 1, api.ErrOrder},
		{tempers(temper(0, 0)), 0, api.ErrRange},
		{tempers(temper(3001, 0)), 0, api.ErrRange},
		{tempers(temper(400, -1)), 0, api.ErrRange},
		{tempers(temper(400, 0), temper(500, 0), temper(300, whole+1)), 2, api.ErrRange},
		{tempers(temper(400, 0), temper(399, 0)), 1, api.ErrOrder},
	}
}

// badOthers are rules with errors that concern no knot.
func badOthers() []bad {
	clash := heats(heat(800, 0, 0, 0))
	clash.Hard[0] = -1
	cool999, cold999 := cools(cool(600, one(0), one(0)), cool(999, one(0), one(0))), colds(cold(999, 0, 0))
	cool999.Tempers = []api.SteelTemper{temper(999, 0), temper(1000, 0)}
	return []bad{
		{crowd(0), 0, api.ErrLarge},
		{crowd(1), 0, api.ErrLarge},
		{crowd(2), 0, api.ErrLarge},
		{crowd(3), 0, api.ErrLarge},
		{clash, 0, api.ErrClash},
		{heats(heat(800, 0, 0, 0)), 0, api.ErrClash},
		{heats(heat(1, 0, 0, 0), heat(900, 0, 0, 0)), 0, api.ErrClash},
		{cools(cool(1000, one(0), one(0))), 0, api.ErrClash},
		{cools(cool(600, one(0), one(0)), cool(1100, one(0), one(0))), 0, api.ErrClash},
		{colds(cold(1000, 0, 0)), 0, api.ErrClash},
		{colds(cold(3000, 0, 0)), 0, api.ErrClash},
		{tempers(temper(1000, 0)), 0, api.ErrClash},
		{tempers(temper(999, 0), temper(1001, 0)), 0, api.ErrClash},
		{cool999, 0, api.ErrClash},
		{hard(-1, 0, 0, 0), 0, api.ErrRange},
		{hard(0, 0, 0, 2001), 0, api.ErrRange},
		{hard(0, 0, math.MinInt, 0), 0, api.ErrRange},
		{hard(2000, 2000, math.MaxInt, 2000), 0, api.ErrRange},
		{hard(1, 0, 0, 0), 0, api.ErrOrder},
		{hard(0, 1, 0, 5), 0, api.ErrOrder},
		{hard(0, 5, 5, 4), 0, api.ErrOrder},
		// All are checked for the first error first.
		{hard(1, 0, 0, 2001), 0, api.ErrRange},
		{cold999, 0, api.OK},
	}
}

// badRules are rules with errors; where there are several, the one that is listed first.
func badRules() []bad {
	all := slices.Concat(badHeats(), badCools(), badColds(), badOthers())
	return slices.DeleteFunc(all, func(b bad) bool { return b.e == api.OK })
}

// goodRules are rules at the limits.
func goodRules() []api.SteelRules {
	all := api.SteelRules{Hard: [4]int{2000, 2000, 2000, 2000}}
	for i := range api.MaxSteelKnots {
		all.Heats = append(all.Heats, heat(3000-7+i, 0, whole, whole))
		all.Cools = append(all.Cools, cool(1+i, span(0, whole), one(whole)))
		all.Colds = append(all.Colds, cold(1+i, whole, whole))
		all.Tempers = append(all.Tempers, temper(1+i, whole))
	}
	without := heats()
	without.Cools = []api.SteelCool{cool(3000, one(0), one(0))}
	cold := changed(func(r *api.SteelRules) { r.Heats, r.Colds = nil, nil })
	alone := heats(heat(1, 0, 0, 0))
	alone.Cools, alone.Colds, alone.Tempers = nil, []api.SteelCold{}, nil
	return []api.SteelRules{{}, example(), all, without, cold, alone, hard(0, 0, 0, 0), hard(5, 5, 5, 5)}
}

// P4.1
func TestCheckRules(t *testing.T) {
	for _, r := range goodRules() {
		i, e := steel.CheckRules(r)
		want(t, "CheckRules", i, e, 0, api.OK)
	}
	for _, b := range slices.Concat(badHeats(), badCools(), badColds(), badOthers()) {
		i, e := steel.CheckRules(b.r)
		if i != b.index || e != b.e {
			t.Errorf("CheckRules %+v: %d, %d, want %d, %d", b.r, i, e, b.index, b.e)
		}
	}
}

// P4.1: each knot of random rules is broken
func TestCheckRulesWithOneWrongKnot(t *testing.T) {
	rulesOf(t, func(random *rand.Rand, r api.SteelRules) {
		if n := len(r.Heats); n > 0 {
			i := random.Intn(n)
			r.Heats[i].Growth = -1
			k, e := steel.CheckRules(r)
			want(t, "CheckRules", k, e, i, api.ErrRange)
		}
		r.Heats = nil
		if n := len(r.Colds); n > 1 {
			i := 1 + random.Intn(n-1)
			r.Colds[i].Kelvin = r.Colds[i-1].Kelvin
			k, e := steel.CheckRules(r)
			want(t, "CheckRules", k, e, i, api.ErrOrder)
		}
		r.Colds = nil
		if n := len(r.Cools); n > 0 {
			i := random.Intn(n)
			r.Cools[i].Rate = span(1, 0)
			k, e := steel.CheckRules(r)
			want(t, "CheckRules", k, e, i, api.ErrForm)
		}
	})
}

// wantStateError asks all functions of rules and a state that have an error, with errors in all other arguments, too.
func wantStateError(t *testing.T, r api.SteelRules, s api.SteelState, wanted api.Errno) {
	t.Helper()
	wrong := api.SteelPick{Heat: -1}
	x, e := steel.Stepped(r, s, api.SteelTick{Pick: wrong})
	want(t, "Stepped", x, e, api.SteelState{}, wanted)
	x, e = steel.RunOf(r, s, api.SteelRun{Curve: []int{0}, Pick: wrong})
	want(t, "RunOf", x, e, api.SteelState{}, wanted)
	n, e := steel.HardnessOf(r, s)
	want(t, "HardnessOf", n, e, 0, wanted)
	n, e = steel.GrainsOf(r, s, make([]int, api.MaxSteelTicks+1))
	want(t, "GrainsOf", n, e, 0, wanted)
	l, e := steel.CurvesFor(r, s, api.SteelWanted{Curves: make([][]int, api.MaxSteelCurves+1), Hard: span(-1, 0)})
	want(t, "CurvesFor", l, e, []int{}, wanted)
}

// wantBoxError asks all functions of rules and a box that have an error, with errors in all other arguments, too.
func wantBoxError(t *testing.T, r api.SteelRules, b api.SteelBox, wanted api.Errno) {
	t.Helper()
	x, e := steel.BoxStep(r, b, span(0, -1))
	want(t, "BoxStep", x, e, api.SteelBox{}, wanted)
	x, e = steel.BoxRun(r, b, make([]api.Range, api.MaxSteelTicks+1))
	want(t, "BoxRun", x, e, api.SteelBox{}, wanted)
	band, e := steel.BandOf(r, b)
	want(t, "BandOf", band, e, api.Range{}, wanted)
	l, e := steel.ProfileOf(r, b, make([][]api.Range, api.MaxSteelCurves+1))
	want(t, "ProfileOf", l, e, []api.Range{}, wanted)
}

// P4.2 to P4.4: the error of the rules comes first, without its index; then that of the state or the box
func TestErrorsOfRulesAndStates(t *testing.T) {
	for _, b := range badRules() {
		wantStateError(t, b.r, api.SteelState{Parent: -1}, b.e)
		wantBoxError(t, b.r, api.SteelBox{}, b.e)
		n, e := steel.IncubationOf(b.r, make([]int, api.MaxSteelTicks+1))
		want(t, "IncubationOf", n, e, 0, b.e)
	}
	for s, wanted := range badStates() {
		wantStateError(t, example(), s, wanted)
	}
	for _, x := range badBoxes() {
		wantBoxError(t, example(), x.b, x.e)
	}
}
