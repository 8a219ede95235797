package steel_test

import (
	"math"
	"math/rand"
	"slices"
	"testing"

	"martensite/api"
	"martensite/steel"
)

// P4.4
func TestProfiles(t *testing.T) {
	rulesOf(t, func(random *rand.Rand, r api.SteelRules) {
		b := someBox(random, someState(random))
		var curves [][]api.Range
		var bands []api.Range
		for range random.Intn(4) {
			curve := around(random, someCurve(random, 4))
			curves = append(curves, curve)
			bands = append(bands, exactBand(r, exactBoxRun(r, b, curve)))
		}
		l, e := steel.ProfileOf(r, b, curves)
		want(t, "ProfileOf", l, e, bands, api.OK)
	})
	l, e := steel.ProfileOf(example(), about(func(*api.SteelBox) {}), nil)
	want(t, "ProfileOf nothing", l, e, []api.Range{}, api.OK)
	l, e = steel.ProfileOf(example(), about(func(*api.SteelBox) {}), make([][]api.Range, api.MaxSteelCurves))
	want(t, "ProfileOf all cells", l, e, slices.Repeat([]api.Range{one(200)}, api.MaxSteelCurves), api.OK)
}

// P4.4: the number of curves comes before their errors, the length of a curve before its ranges, and all of a curve before the next one
func TestErrorsOfProfiles(t *testing.T) {
	b := about(func(*api.SteelBox) {})
	long := slices.Repeat([]api.Range{span(1, 0)}, api.MaxSteelTicks+1)
	l, e := steel.ProfileOf(example(), b, slices.Repeat([][]api.Range{{span(1, 0)}}, api.MaxSteelCurves+1))
	want(t, "too many curves", l, e, []api.Range{}, api.ErrLarge)
	l, e = steel.ProfileOf(example(), b, [][]api.Range{{one(1)}, long, {one(0)}})
	want(t, "a long curve", l, e, []api.Range{}, api.ErrLarge)
	l, e = steel.ProfileOf(example(), b, [][]api.Range{{one(1)}, {span(6, 5), one(0)}, long})
	want(t, "a wrong range", l, e, []api.Range{}, api.ErrOrder)
	l, e = steel.ProfileOf(example(), b, [][]api.Range{{one(1)}, {one(0), span(6, 5)}, long})
	want(t, "a wrong range", l, e, []api.Range{}, api.ErrRange)
}

// P4.4, example 6
func TestCaseDepth(t *testing.T) {
	bands := []api.Range{span(700, 750), span(500, 600), span(200, 250)}
	for _, x := range []struct {
		profile []api.Range
		limit   int
		depth   api.Range
	}{
		{bands, 550, span(1, 2)},
		{bands, 0, span(3, 3)},
		{bands, 200, span(3, 3)},
		{bands, 201, span(2, 3)},
		{bands, 250, span(2, 3)},
		{bands, 251, span(2, 2)},
		{bands, 501, span(1, 2)},
		{bands, 700, span(1, 1)},
		{bands, 701, span(0, 1)},
		{bands, 750, span(0, 1)},
		{bands, 751, span(0, 0)},
		{bands, 2000, span(0, 0)},
		{nil, 0, span(0, 0)},
		{nil, 2000, span(0, 0)},
		// What lies below a soft cell does not count.
		{[]api.Range{one(700), one(200), one(700)}, 500, span(1, 1)},
		{[]api.Range{span(0, 2000), one(700), span(300, 600)}, 500, span(0, 3)},
		{slices.Repeat([]api.Range{one(2000)}, api.MaxSteelCurves), 2000, span(12, 12)},
	} {
		r, e := steel.CaseDepth(x.profile, x.limit)
		want(t, "CaseDepth", r, e, x.depth, api.OK)
	}
}

// P4.4
func TestErrorsOfCaseDepth(t *testing.T) {
	for _, x := range []struct {
		profile []api.Range
		limit   int
		e       api.Errno
	}{
		{make([]api.Range, api.MaxSteelCurves+1), -1, api.ErrLarge},
		{slices.Repeat([]api.Range{one(-1)}, api.MaxSteelCurves+1), 0, api.ErrLarge},
		{[]api.Range{one(5), span(-1, 0)}, 0, api.ErrRange},
		{[]api.Range{one(5), span(0, 2001)}, 0, api.ErrRange},
		{[]api.Range{span(2001, 0)}, 0, api.ErrRange},
		{[]api.Range{span(0, -1)}, 0, api.ErrRange},
		{[]api.Range{one(5), span(6, 5), one(-1)}, -1, api.ErrOrder},
		{[]api.Range{one(5), one(math.MaxInt), span(6, 5)}, 0, api.ErrRange},
		{[]api.Range{span(6, 5)}, 2001, api.ErrOrder},
		{[]api.Range{one(5)}, 2001, api.ErrRange},
		{[]api.Range{one(5)}, -1, api.ErrRange},
		{nil, math.MinInt, api.ErrRange},
	} {
		r, e := steel.CaseDepth(x.profile, x.limit)
		want(t, "CaseDepth", r, e, api.Range{}, x.e)
	}
}

// P4.11
func TestGreaterLimits(t *testing.T) {
	random := rand.New(rand.NewSource(7))
	for range 1000 {
		var profile []api.Range
		for range random.Intn(api.MaxSteelCurves + 1) {
			profile = append(profile, someRange(random, 0, 40))
		}
		before := span(len(profile), len(profile))
		for limit := range 42 {
			r, e := steel.CaseDepth(profile, limit)
			if e != api.OK || r.Lo > r.Hi || r.Lo > before.Lo || r.Hi > before.Hi {
				t.Errorf("CaseDepth %v, %d: %v, %d after %v", profile, limit, r, e, before)
			}
			before = r
		}
	}
}

// P4.4: the curves whose bands lie in the range
func TestCurvesFor(t *testing.T) {
	curves := [][]int{
		nil,
		{1200, 1200, 300},
		{1200, 1200},
		{1200, 300},
		{1200, 1200, 300, 400, 400},
	}
	for _, x := range []struct {
		hard  api.Range
		found []int
	}{
		{span(0, 2000), []int{0, 1, 2, 3, 4}},
		{span(200, 200), []int{0}},
		{span(745, 772), []int{1}},
		{span(746, 772), []int{}},
		{span(745, 771), []int{}},
		{span(736, 772), []int{1, 4}},
		{span(737, 772), []int{1}},
		{span(250, 250), []int{2}},
		{span(200, 250), []int{0, 2}},
		{one(0), []int{}},
	} {
		l, e := steel.CurvesFor(example(), parent(), api.SteelWanted{Curves: curves, Hard: x.hard})
		want(t, "CurvesFor", l, e, x.found, api.OK)
	}
	l, e := steel.CurvesFor(example(), parent(), api.SteelWanted{Hard: span(0, 2000)})
	want(t, "CurvesFor no curves", l, e, []int{}, api.OK)
	l, e = steel.CurvesFor(example(), parent(), api.SteelWanted{Curves: make([][]int, api.MaxSteelCurves), Hard: span(200, 200)})
	want(t, "CurvesFor all curves", l, e, []int{0, 1, 2, 3, 4, 5, 6, 7, 8, 9, 10, 11}, api.OK)
}

// P4.4: by the definition
func TestCurvesForByBands(t *testing.T) {
	all := 0
	rulesOf(t, func(random *rand.Rand, r api.SteelRules) {
		s, x := someState(random), api.SteelWanted{Hard: someRange(random, 0, 1200)}
		var found []int
		for i := range random.Intn(5) {
			curve := someCurve(random, 3)
			x.Curves = append(x.Curves, curve)
			var points []api.Range
			for _, kelvin := range curve {
				points = append(points, one(kelvin))
			}
			of, _ := steel.BoxOf(s)
			band := exactBand(r, exactBoxRun(r, of, points))
			if x.Hard.Lo <= band.Lo && band.Hi <= x.Hard.Hi {
				found = append(found, i)
			}
		}
		all += len(found)
		l, e := steel.CurvesFor(r, s, x)
		want(t, "CurvesFor", l, e, found, api.OK)
	})
	if all < 200 {
		t.Errorf("only %d curves were found", all)
	}
}

// P4.4
func TestErrorsOfCurvesFor(t *testing.T) {
	long := slices.Repeat([]int{0}, api.MaxSteelTicks+1)
	for _, x := range []struct {
		w api.SteelWanted
		e api.Errno
	}{
		{api.SteelWanted{Curves: slices.Repeat([][]int{{0}}, api.MaxSteelCurves+1), Hard: span(6, 5)}, api.ErrLarge},
		{api.SteelWanted{Curves: [][]int{{1}, long, {0}}, Hard: one(-1)}, api.ErrLarge},
		{api.SteelWanted{Curves: [][]int{{1}, {0}, long}, Hard: span(6, 5)}, api.ErrRange},
		{api.SteelWanted{Curves: [][]int{{3001}}, Hard: span(6, 5)}, api.ErrRange},
		{api.SteelWanted{Hard: span(-1, 0)}, api.ErrRange},
		{api.SteelWanted{Hard: span(0, 2001)}, api.ErrRange},
		{api.SteelWanted{Hard: span(2001, 0)}, api.ErrRange},
		{api.SteelWanted{Hard: span(0, math.MinInt)}, api.ErrRange},
		{api.SteelWanted{Hard: span(2000, 1999)}, api.ErrOrder},
	} {
		l, e := steel.CurvesFor(example(), parent(), x.w)
		want(t, "CurvesFor", l, e, []int{}, x.e)
	}
}
